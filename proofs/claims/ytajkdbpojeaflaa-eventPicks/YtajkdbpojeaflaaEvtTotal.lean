/- The contracts of event.Total and sponsionref09.Total over this translation. -/
import Derived.Test.YtajkdbpojeaflaaEvts
import Derived.Test.YtajkdbpojeaflaaHugeSum
import Derived.Test.YtajkdbpojeaflaaRef2Int
import Derived.Test.YtajkdbpojeaflaaRef2
import Derived.Laws.IdiomCopy
namespace Go.Proofs.Ytajkdbpojeaflaa
open Go.RowKit Go.Lib
attribute [local go_sem] setCell_drewN alloc_drewN

/-- Block g of w holds n numbers, and may be written. -/
structure NRow (w : World) (g n : Nat) (F : Nat → Int) : Prop where
  lt : g < w.heap.size
  cell : ∀ i, i < n → ∀ q, q < 4 → w.cell? ⟨g, i * 4 + q, none⟩ = some (.int .u64 (lm (F i) q))
  fr : ∀ o, w.frozen? ⟨g, o, none⟩ = false
theorem NRow.of {w w' : World} {g n : Nat} {F : Nat → Int} (h : NRow w g n F) (hs : w.heap.size ≤ w'.heap.size) (hb : w'.heap[g]? = w.heap[g]?) : NRow w' g n F :=
  ⟨Nat.lt_of_lt_of_le h.lt hs, fun i hi q hq => (World.cell?_of_block (w := w) (a := ⟨g, i * 4 + q, none⟩) hb).trans (h.cell i hi q hq), fun o => (World.frozen?_of_block (w := w) (a := ⟨g, o, none⟩) hb).trans (h.fr o)⟩
theorem NRow.after {w w' : World} {g n : Nat} {F : Nat → Int} (h : NRow w g n F) (hb : Below w.heap.size w w') : NRow w' g n F := h.of hb.size (hb.block g h.lt)
theorem NRow.congr {w : World} {g n : Nat} {F G : Nat → Int} (h : NRow w g n F) (e : ∀ i, i < n → F i = G i) : NRow w g n G :=
  ⟨h.lt, fun i hi q hq => by rw [← e i hi]; exact h.cell i hi q hq, h.fr⟩
abbrev four4 (a : Int) : List Value := [.int .u64 (lm a 0), .int .u64 (lm a 1), .int .u64 (lm a 2), .int .u64 (lm a 3)]
theorem NRow.put {w : World} {g n : Nat} {F : Nat → Int} (h : NRow w g n F) (k : Nat) (hk : k < n) (a : Int) : NRow (w.setCells g (k * 4) (four4 a)) g n (fun i => if i = k then a else F i) := by
  refine ⟨by rw [setCells_size]; exact h.lt, fun i hi q hq => ?_, fun o => by rw [World.frozen?_setCells]; exact h.fr o⟩
  by_cases e : i = k
  · subst e
    rw [if_pos rfl]
    have hq4 : q = 0 ∨ q = 1 ∨ q = 2 ∨ q = 3 := by omega
    have := World.cell?_setCells_in g (four4 a) (i * 4) w (fun j hj => by
      have hj4 : j < 4 := by simpa using hj
      rw [h.cell i hi j hj4]; rfl) q (by simpa using hq)
    rw [this]
    rcases hq4 with rfl | rfl | rfl | rfl <;> rfl
  · rw [if_neg e, World.cell?_setCells_out g (four4 a) (k * 4) w ⟨g, i * 4 + q, none⟩ (fun _ _ => by simp only [List.length_cons, List.length_nil]; omega)]
    exact h.cell i hi q hq
theorem NRow.isl {w : World} {g n : Nat} {F : Nat → Int} (h : NRow w g n F) (hn : n ≤ 1048576) : ISl w (some ⟨g, 0, none⟩) n n F :=
  ⟨Nat.le_refl _, hn, fun _ => ⟨g, 0, rfl, h.lt, fun i hi => ⟨by rw [Nat.zero_add]; exact h.cell i hi 0 (by omega), by rw [Nat.zero_add]; exact h.cell i hi 1 (by omega), by rw [Nat.zero_add]; exact h.cell i hi 2 (by omega), by rw [Nat.zero_add]; exact h.cell i hi 3 (by omega)⟩⟩⟩
theorem infoB9 : (Try.prog.info? 34).map (fun i => (i.zero, i.size, i.bytes)) = some (some (.agg #[.int .u64 0, .int .u64 0, .int .u64 0, .int .u64 0]), 4, 32) := by kernel_rfl
theorem make_big {ops : Array Oper} {rest : List Oper} {o : Oper} {a : Act} {Q : Exit → Act → World → Prop} (hgd : o.guard = none) (l c : Operand) (hop : o.op = Op.makeSlice 74 l c) {wr : World}
    (L C : Int) (n : Nat) (hl : a.eval l = .int .i64 L) (hc : a.eval c = .int .i64 C) (hL : L = (n : Int)) (hC : C = (n : Int)) (hn : n ≤ 4194304)
    (hK : ∀ w', NRow w' wr.heap.size n (fun _ => 0) → Below wr.heap.size wr w' → wpList Try.prog ops Q rest (a.put o.dst (.slice (some ⟨wr.heap.size, 0, none⟩) n n)) w') :
    wpList Try.prog ops Q (o :: rest) a wr := by
  have hi0 := infoB9
  cases e : Try.prog.info? 34 with
  | none => rw [e] at hi0; simp at hi0
  | some i0 =>
    rw [e] at hi0
    simp at hi0
    obtain ⟨hz0, hz1, hz2⟩ := hi0
    refine wpList_make_full wr hgd l c 74 hop wr.heap.size 34 i0 (.agg #[.int .u64 0, .int .u64 0, .int .u64 0, .int .u64 0]) 4 Try.underlying74 e hz0 hz1 .i64 .i64 L C n hl hc hL hC (by rw [hz2]; omega) (by unfold maxLen; omega) (Nat.le_refl _) ?_
    intro w' h1 h2
    refine hK w' ⟨(h1.lt wr.heap.size rfl).2, fun i hi q hq => ?_, fun o => World.ownsRow.frozenAt h1 o⟩ ((bMe wr).grown h2 (Nat.le_refl _) (fun k hk => by cases hk))
    rw [World.ownsRow.cellAt h1 (i * 4 + q) (by omega)]
    have hq4 : q = 0 ∨ q = 1 ∨ q = 2 ∨ q = 3 := by omega
    have hlt : i * 4 + q < n * 4 := by omega
    have hm : (i * 4 + q) % 4 = q := by omega
    rw [lm_zero]
    simp only [madeCells, Array.toList_map, Array.toList_range, List.getElem?_map, List.getElem?_range hlt, Option.map_some]
    rcases hq4 with rfl | rfl | rfl | rfl
    · show some ((#[Value.int .u64 0, .int .u64 0, .int .u64 0, .int .u64 0] : Array Value)[(i * 4 + 0) % 4]!) = _; rw [hm]; rfl
    · show some ((#[Value.int .u64 0, .int .u64 0, .int .u64 0, .int .u64 0] : Array Value)[(i * 4 + 1) % 4]!) = _; rw [hm]; rfl
    · show some ((#[Value.int .u64 0, .int .u64 0, .int .u64 0, .int .u64 0] : Array Value)[(i * 4 + 2) % 4]!) = _; rw [hm]; rfl
    · show some ((#[Value.int .u64 0, .int .u64 0, .int .u64 0, .int .u64 0] : Array Value)[(i * 4 + 3) % 4]!) = _; rw [hm]; rfl
/-- The amounts. -/
def amt (xs : List Evt) : Nat → Int := fun i => (xs.getD i noEvt).a
theorem amt_in {xs : List Evt} (h : ∀ x ∈ xs, Evt.Ok x) (i : Nat) : In (amt xs i) := by
  unfold amt
  by_cases hi : i < xs.length
  · have e : xs.getD i noEvt = xs[i] := by simp [hi]
    rw [e]
    exact (h _ (List.getElem_mem hi)).a
  · rw [List.getD_eq_getElem?_getD, List.getElem?_eq_none (by omega)]; exact in_zero9
theorem amt_at {xs : List Evt} {k : Nat} {x : Evt} (h : xs[k]? = some x) : amt xs k = x.a := by
  unfold amt
  rw [List.getD_eq_getElem?_getD, h]; rfl
def TotalE (xs : List Evt) (e : Ending) : Prop := ∃ s c, e = .returned (.tuple #[big s, .int .i64 c]) ∧ ((In (sums (amt xs) xs.length) ∧ s = sums (amt xs) xs.length ∧ c = 0) ∨ (¬ In (sums (amt xs) xs.length) ∧ s = 0 ∧ c = 2))
set_option maxRecDepth 100000 in
set_option maxHeartbeats 4000000 in
theorem total9_any {w : World} {ao : Option Addr} {cap : Nat} {xs : List Evt} (h : Evs w ao xs) (hok : ∀ x ∈ xs, Evt.Ok x) (hl : xs.length ≤ 100) :
    Calls Try.prog 17 #[.slice ao xs.length cap] w fun e w' => TotalE xs e ∧ Below w.heap.size w w' := by
  have HA := hide h; have HO := hide hok; have HLN := hide hl
  clear h hok
  have R0 := hide (Own.new w 0 0 0 0 34)
  have B : Hid (Below w.heap.size w (w.alloc (.cells #[.int .u64 0, .int .u64 0, .int .u64 0, .int .u64 0] 34))) := bAl (bMe w)
  have HZ : Hid ((w.alloc (.cells #[.int .u64 0, .int .u64 0, .int .u64 0, .int .u64 0] 34)).heap.size = w.heap.size + 1) := by show _ = _; simp
  go_enter Try.func17, Try.ntmps17
  go_wp2_with (refine make_big rfl _ _ rfl _ _ xs.length rfl rfl rfl rfl (by omega) ?_)
  generalize w.alloc (.cells #[.int .u64 0, .int .u64 0, .int .u64 0, .int .u64 0] 34) = w1 at *
  intro w2 hn hb
  have N := hide hn
  have hb' : Below w1.heap.size w1 w2 := by rw [HZ.out]; exact hb
  replace R0 := hide (R0.out.after hb' rfl)
  replace B := hide (bOn B.out hb')
  clear hn hb hb' HZ
  obtain ⟨g4, hg4⟩ : ∃ g4, w.heap.size + 1 = g4 := ⟨_, rfl⟩
  rw [hg4] at N
  simp only [hg4]
  have HG4 := hide hg4
  clear hg4
  obtain ⟨g, hg⟩ : ∃ g, w.heap.size = g := ⟨_, rfl⟩
  rw [hg] at R0 HG4
  simp only [hg]
  have HG := hide hg
  clear hg
  go_wp2
  go_loopw [12] (fun t wr => ∃ k : Nat, k ≤ xs.length ∧ t = .int .i64 k ∧ NRow wr g4 xs.length (fun i => if i < k then amt xs i else 0) ∧ Own wr g 0 0 0 0 ∧ Below w.heap.size w wr) (fun t _ => xs.length - (intOf t).toNat)
  case atStart => exact ⟨0, by omega, rfl, N.out.congr (fun i _ => by simp), R0.out, B.out⟩
  case round =>
    clear N R0 B
    obtain ⟨k, hk, rfl, hn, hr0, hb⟩ := hrel
    have N := hide hn; have R0 := hide hr0; have B := hide hb
    clear hn hr0 hb
    by_cases hlt : k < xs.length
    · have hki : (k : Int) < (xs.length : Int) := by omega
      obtain ⟨x, hx⟩ : ∃ x, xs[k]? = some x := ⟨xs[k], by simp [hlt]⟩
      have HXA := hide (amt_at hx)
      obtain ⟨b, off, rfl, hr⟩ := (HA.out.below B.out).get hx
      have R : Hid (wr.rangeAt b (off + k * 47) (ec x)) := hr
      clear hr hx
      go_wp2_with (refine wpList_load_mid rfl 40 _ rfl b (off + k * 47) rfl (ec x) _ R.out Try.underlying40 rfl (info_evt x) ?_)
      rw [storing_new wr _ 40 (ec x) (by rw [ec_length]; rfl) (ec_one _)]
      obtain ⟨V, B2⟩ := copiedE wr x
      have HV := hide V
      replace N := hide (N.out.after B2)
      replace R0 := hide (R0.out.after B2 rfl)
      replace B := hide (bOn B.out B2)
      clear V B2 R
      generalize (wr.alloc (.cells #[.int .u8 0, .int .u64 0, .int .u8 0, .int .u8 0, .int .u8 0, .int .u8 0, .int .u8 0, .int .u8 0, .int .u8 0, .int .u8 0, .int .u8 0, .int .u8 0, .int .u8 0, .int .u8 0, .int .u8 0, .int .u8 0, .int .u8 0, .int .u8 0, .int .u8 0, .int .u8 0, .int .u8 0, .int .u8 0, .int .u8 0, .int .u8 0, .int .u8 0, .int .u8 0, .int .u8 0, .int .u8 0, .int .u8 0, .int .u8 0, .int .u8 0, .int .u8 0, .int .u8 0, .int .u8 0, .int .u8 0, .int .u8 0, .int .u8 0, .int .u8 0, .int .u64 0, .int .u64 0, .int .u64 0, .int .u64 0, .int .u64 0, .int .u64 0, .int .u64 0, .int .u64 0, .int .u32 0] 40)).setCells wr.heap.size 0 (ec x) = w4 at *
      generalize wr.heap.size = gx at *
      have c0 := HV.out.cell 38 (ec_tail x 4)
      have c1 := HV.out.cell 39 (ec_tail x 5)
      have c2 := HV.out.cell 40 (ec_tail x 6)
      have c3 := HV.out.cell 41 (ec_tail x 7)
      have n0 := N.out.cell k hlt 0 (by omega)
      have n1 := N.out.cell k hlt 1 (by omega)
      have n2 := N.out.cell k hlt 2 (by omega)
      have n3 := N.out.cell k hlt 3 (by omega)
      rw [Nat.add_zero] at n0
      have f0 := N.out.fr (k * 4)
      have f1 := N.out.fr (k * 4 + 1)
      have f2 := N.out.fr (k * 4 + 2)
      have f3 := N.out.fr (k * 4 + 3)
      have N2 : Hid (NRow (w4.setCells g4 (k * 4) (four4 x.a)) g4 xs.length (fun i => if i < k + 1 then amt xs i else 0)) := (N.out.put k hlt x.a).congr (fun i _ => by
        by_cases e : i = k
        · subst e; rw [if_pos rfl, if_pos (by omega), HXA.out]
        · rw [if_neg e]
          by_cases e2 : i < k
          · rw [if_pos e2, if_pos (by omega)]
          · rw [if_neg e2, if_neg (by omega)])
      have hne : g ≠ g4 := by have := HG4.out; omega
      have R2 : Hid (Own (w4.setCells g4 (k * 4) (four4 x.a)) g 0 0 0 0) := R0.out.of (by rw [setCells_size]; exact Nat.le_refl _) (setCells_block _ _ _ _ _ hne)
      have B2 : Hid (Below w.heap.size w (w4.setCells g4 (k * 4) (four4 x.a))) := setCells_below B.out (by have := HG4.out; have := HG.out; omega) _ _
      clear hne
      go_wp2
      go_roundw
      case rel => exact ⟨k + 1, by omega, by go_num, N2.out, R2.out, B2.out⟩
      case measure => simp [intOf]; omega
    · obtain rfl : k = xs.length := by omega
      have IS := hide ((N.out.congr (G := amt xs) (fun i hi => if_pos hi)).isl (by have := HLN.out; omega))
      go_wp2_with fail
      refine (sum_any IS.out (amt_in HO.out)).mono ?_
      rintro e w5 ⟨s, c, rfl, hs, hb⟩
      have HS := hide hs
      replace R0 := hide (R0.out.after hb rfl)
      replace B := hide (bOn B.out hb)
      clear hs hb N
      obtain ⟨p0, q0, q1, q2, q3, p5⟩ := R0.out
      go_wp2
      have D := hide (R0.out.put (lm s 0) (lm s 1) (lm s 2) (lm s 3))
      obtain ⟨p0, d0, d1, d2, d3, p5⟩ := D.out
      refine bodyPost_ret (v := .tuple #[big s, .int .i64 c]) (by simp [results, Try.results17, go_sem, d0, d1, d2, d3]) rfl ⟨⟨s, c, rfl, HS.out⟩, put_below B.out (by rw [HG.out]; exact Nat.le_refl _)⟩
set_option maxRecDepth 100000 in
set_option maxHeartbeats 4000000 in
theorem reftotal9_any {w : World} {ao : Option Addr} {cap : Nat} {xs : List Evt} (h : Evs w ao xs) (hok : ∀ x ∈ xs, Evt.Ok x) (hl : xs.length ≤ 100) :
    Calls Try.prog 18 #[.slice ao xs.length cap] w fun e w' => ((In (sums (amt xs) xs.length) ∧ e = .returned (.tuple #[big (sums (amt xs) xs.length), .bool true])) ∨ (¬ In (sums (amt xs) xs.length) ∧ e = .returned (.tuple #[big 0, .bool false]))) ∧ Below w.heap.size w w' := by
  have HA := hide h; have HO := hide hok; have HLN := hide hl
  clear h hok
  have R0 := hide (Own.new w 0 0 0 0 34)
  have B : Hid (Below w.heap.size w (w.alloc (.cells #[.int .u64 0, .int .u64 0, .int .u64 0, .int .u64 0] 34))) := bAl (bMe w)
  go_enter Try.func18, Try.ntmps18
  go_wp2
  generalize w.alloc (.cells #[.int .u64 0, .int .u64 0, .int .u64 0, .int .u64 0] 34) = w1 at *
  obtain ⟨g, hg⟩ : ∃ g, w.heap.size = g := ⟨_, rfl⟩
  rw [hg] at R0
  simp only [hg]
  have HG := hide hg
  clear hg
  go_loopw [4, 9] (fun v t wr => ∃ (k : Nat) (no : Option Addr) (nn nc : Nat), k ≤ xs.length ∧ t = .int .i64 k ∧ v = .slice no nn nc ∧ Num wr no nn nc (sums (amt xs) k) (16 + k) ∧ Own wr g 0 0 0 0 ∧ Below w.heap.size w wr) (fun _ t _ => xs.length - (intOf t).toNat)
  case atStart => exact ⟨0, none, 0, 0, by omega, rfl, rfl, Num.nil _ _, R0.out, B.out⟩
  case round =>
    clear R0 B
    obtain ⟨k, no, nn, nc, hk, rfl, rfl, hn, hr0, hb⟩ := hrel
    have N := hide hn; have R0 := hide hr0; have B := hide hb
    clear hn hr0 hb
    by_cases hlt : k < xs.length
    · have hki : (k : Int) < (xs.length : Int) := by omega
      obtain ⟨x, hx⟩ : ∃ x, xs[k]? = some x := ⟨xs[k], by simp [hlt]⟩
      have HXA := hide (amt_at hx)
      have HX := hide (HO.out x (List.mem_of_getElem? hx))
      obtain ⟨b, off, rfl, hr⟩ := (HA.out.below B.out).get hx
      have R : Hid (wr.rangeAt b (off + k * 47) (ec x)) := hr
      clear hr hx
      go_wp2_with (refine wpList_load_mid rfl 37 _ rfl b (off + k * 47) rfl (ec x) _ R.out Try.underlying37 rfl (info_rev x) ?_)
      rw [storing_new wr _ 37 (ec x) (by rw [ec_length]; rfl) (ec_one _)]
      obtain ⟨V, B2⟩ := copiedR wr x
      have HV := hide V
      replace N := hide (N.out.below B2)
      replace R0 := hide (R0.out.after B2 rfl)
      replace B := hide (bOn B.out B2)
      clear V B2 R
      generalize (wr.alloc (.cells #[.int .u8 0, .int .u64 0, .int .u8 0, .int .u8 0, .int .u8 0, .int .u8 0, .int .u8 0, .int .u8 0, .int .u8 0, .int .u8 0, .int .u8 0, .int .u8 0, .int .u8 0, .int .u8 0, .int .u8 0, .int .u8 0, .int .u8 0, .int .u8 0, .int .u8 0, .int .u8 0, .int .u8 0, .int .u8 0, .int .u8 0, .int .u8 0, .int .u8 0, .int .u8 0, .int .u8 0, .int .u8 0, .int .u8 0, .int .u8 0, .int .u8 0, .int .u8 0, .int .u8 0, .int .u8 0, .int .u8 0, .int .u8 0, .int .u8 0, .int .u8 0, .int .u64 0, .int .u64 0, .int .u64 0, .int .u64 0, .int .u64 0, .int .u64 0, .int .u64 0, .int .u64 0, .int .u32 0] 37)).setCells wr.heap.size 0 (ec x) = w4 at *
      generalize wr.heap.size = gx at *
      have c0 := HV.out.cell 38 (ec_tail x 4)
      have c1 := HV.out.cell 39 (ec_tail x 5)
      have c2 := HV.out.cell 40 (ec_tail x 6)
      have c3 := HV.out.cell 41 (ec_tail x 7)
      go_wp2_with fail
      refine (row_of x.a w4 HX.out.a).mono ?_
      rintro e w5 ⟨ro, rn, rc, rfl, hrow, hb⟩
      have RW := hide hrow
      replace N := hide (N.out.below hb)
      replace R0 := hide (R0.out.after hb rfl)
      replace B := hide (bOn B.out hb)
      clear hrow hb c0 c1 c2 c3
      go_wp2_with fail
      refine (add_any N.out (RW.out.mono (M := 16 + k) (by omega)) (by omega)).mono ?_
      rintro e w6 ⟨zo, zn, zc, rfl, hz, hb⟩
      have Z := hide hz
      rw [← HXA.out] at Z
      replace R0 := hide (R0.out.after hb rfl)
      replace B := hide (bOn B.out hb)
      clear hz hb RW N
      go_wp2
      go_roundw
      case rel => exact ⟨k + 1, zo, zn, zc, by omega, by go_num, rfl, Z.out, R0.out, B.out⟩
      case measure => simp [intOf]; omega
    · obtain rfl : k = xs.length := by omega
      by_cases hin : In (sums (amt xs) xs.length)
      · go_wp2_with fail
        refine (int_ok N.out hin).mono ?_
        rintro e w5 ⟨rfl, hb⟩
        replace R0 := hide (R0.out.after hb rfl)
        replace B := hide (bOn B.out hb)
        have HIN := hide hin
        clear hb N hin
        obtain ⟨s, hs⟩ : ∃ s, sums (amt xs) xs.length = s := ⟨_, rfl⟩
        rw [hs]
        have HS := hide hs
        clear hs
        obtain ⟨p0, q0, q1, q2, q3, p5⟩ := R0.out
        go_wp2
        have D := hide (R0.out.put (lm s 0) (lm s 1) (lm s 2) (lm s 3))
        obtain ⟨p0, d0, d1, d2, d3, p5⟩ := D.out
        refine bodyPost_ret (v := .tuple #[big s, .bool true]) (by simp [results, Try.results18, go_sem, d0, d1, d2, d3]) rfl ⟨.inl ⟨HIN.out, by rw [HS.out]⟩, put_below B.out (by rw [HG.out]; exact Nat.le_refl _)⟩
      · go_wp2_with fail
        refine (int_over N.out hin).mono ?_
        rintro e w5 ⟨rfl, hb⟩
        replace R0 := hide (R0.out.after hb rfl)
        replace B := hide (bOn B.out hb)
        have HIN := hide hin
        clear hb N hin
        obtain ⟨p0, q0, q1, q2, q3, p5⟩ := R0.out
        go_wp2
        have D := hide (R0.out.put (lm 0 0) (lm 0 1) (lm 0 2) (lm 0 3))
        obtain ⟨p0, d0, d1, d2, d3, p5⟩ := D.out
        refine bodyPost_ret (v := .tuple #[big 0, .bool false]) (by simp [results, Try.results18, go_sem, d0, d1, d2, d3]) rfl ⟨.inr ⟨HIN.out, rfl⟩, put_below B.out (by rw [HG.out]; exact Nat.le_refl _)⟩
end Go.Proofs.Ytajkdbpojeaflaa
