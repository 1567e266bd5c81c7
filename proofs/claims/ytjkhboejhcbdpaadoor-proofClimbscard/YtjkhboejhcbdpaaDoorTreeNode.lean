/- The contracts of a tree's Node and Root over this translation (written by gen-treenode.py). -/
import Derived.Test.YtjkhboejhcbdpaaDoorTreeEdge
namespace Go.Proofs.YtjkhboejhcbdpaaDoor
open Go.RowKit Go.Lib
attribute [local go_sem] setCell_drewN alloc_drewN

theorem lev_nat (k : Nat) (h : k ≤ 32) : lev (k : Int) = k := by unfold lev; rw [if_neg (by omega), if_neg (by omega)]; omega
set_option maxRecDepth 100000 in
set_option maxHeartbeats 4000000 in
theorem node_nil {w : World} (n level i : Int) :
    Calls Tryd.prog 15 #[.pointer none, .int .u64 n, .int .i64 level, .int .u64 i] w fun e w' => e = .returned (.tuple #[.agg (rowV 32 hz).toArray, .bool false]) ∧ Below w.heap.size w w' := by
  have R := hide (BRow.zeros32 w (g := w.heap.size) rfl)
  have B : Hid (Below w.heap.size w (w.alloc (.cells #[.int .u8 0, .int .u8 0, .int .u8 0, .int .u8 0, .int .u8 0, .int .u8 0, .int .u8 0, .int .u8 0, .int .u8 0, .int .u8 0, .int .u8 0, .int .u8 0, .int .u8 0, .int .u8 0, .int .u8 0, .int .u8 0, .int .u8 0, .int .u8 0, .int .u8 0, .int .u8 0, .int .u8 0, .int .u8 0, .int .u8 0, .int .u8 0, .int .u8 0, .int .u8 0, .int .u8 0, .int .u8 0, .int .u8 0, .int .u8 0, .int .u8 0, .int .u8 0] 28))) := bAl (bMe w)
  go_enter Tryd.func15, Tryd.ntmps15
  go_wp2_with (refine wpList_store_mid rfl 28 _ _ rfl w.heap.size 0 (rowV 32 hz).toArray rfl rfl (R.out.thereA _) (info_hash32A _) (rowV_oneA _ _) ?_)
  refine bodyPost_ret (v := .tuple #[.agg (rowV 32 hz).toArray, .bool false]) ?_ rfl ⟨rfl, setCells_below B.out (Nat.le_refl _) _ _⟩
  have hlv := run_loadVar_mid (P := Tryd.prog) _ _ _ _ _ _ (R.out.stored hz).range Tryd.underlying28 rfl (info_hash32 _)
  exact results_two Tryd.results15 rfl rfl hlv
set_option maxRecDepth 100000 in
set_option maxHeartbeats 8000000 in
theorem node_no {w : World} {g d : Nat} {S : Nat → Prop} {L : List Hs} (h : Tr w g S d L) (n level i : Int) (hno : (L.length : Int) < n ∨ level < 0 ∨ (d : Int) < level ∨ ∃ k : Nat, level = k ∧ k ≤ d ∧ ((2 ^ (d - k) : Nat) : Int) ≤ i) :
    Calls Tryd.prog 15 #[.pointer (some ⟨g, 0, none⟩), .int .u64 n, .int .i64 level, .int .u64 i] w fun e w' => e = .returned (.tuple #[.agg (rowV 32 hz).toArray, .bool false]) ∧ Below w.heap.size w w' := by
  have R := hide (BRow.zeros32 w (g := w.heap.size) rfl)
  have B : Hid (Below w.heap.size w (w.alloc (.cells #[.int .u8 0, .int .u8 0, .int .u8 0, .int .u8 0, .int .u8 0, .int .u8 0, .int .u8 0, .int .u8 0, .int .u8 0, .int .u8 0, .int .u8 0, .int .u8 0, .int .u8 0, .int .u8 0, .int .u8 0, .int .u8 0, .int .u8 0, .int .u8 0, .int .u8 0, .int .u8 0, .int .u8 0, .int .u8 0, .int .u8 0, .int .u8 0, .int .u8 0, .int .u8 0, .int .u8 0, .int .u8 0, .int .u8 0, .int .u8 0, .int .u8 0, .int .u8 0] 28))) := bAl (bMe w)
  have H := hide (h.below B.out)
  have HD := hide h.dep
  have hfew := h.few
  clear h
  have c0 := H.out.box.c0
  obtain ⟨lim, hlim⟩ : ∃ lim : Int, (L.length : Int) = lim := ⟨_, rfl⟩
  by_cases h1 : (L.length : Int) < n
  · clear hno
    have HK : Hid (True) := trivial
    go_enter Tryd.func15, Tryd.ntmps15
    go_wp2_with (first
    | (go_at_call 18; refine (len_any H.out.box (by rw [lv_zero]; omega)).mono ?_; rintro e w' ⟨rfl, rfl⟩; rw [lv_zero])
    | refine wpList_store_mid rfl 28 _ _ rfl w.heap.size 0 (rowV 32 hz).toArray rfl rfl (R.out.thereA _) (info_hash32A _) (rowV_oneA _ _) ?_)
    refine bodyPost_ret (v := .tuple #[.agg (rowV 32 hz).toArray, .bool false]) ?_ rfl ⟨rfl, setCells_below B.out (Nat.le_refl _) _ _⟩
    have hlv := run_loadVar_mid (P := Tryd.prog) _ _ _ _ _ _ (R.out.stored hz).range Tryd.underlying28 rfl (info_hash32 _)
    exact results_two Tryd.results15 rfl rfl hlv
  by_cases h2 : level < 0
  · clear hno
    go_enter Tryd.func15, Tryd.ntmps15
    go_wp2_with (first
    | (go_at_call 18; refine (len_any H.out.box (by rw [lv_zero]; omega)).mono ?_; rintro e w' ⟨rfl, rfl⟩; rw [lv_zero])
    | refine wpList_store_mid rfl 28 _ _ rfl w.heap.size 0 (rowV 32 hz).toArray rfl rfl (R.out.thereA _) (info_hash32A _) (rowV_oneA _ _) ?_)
    refine bodyPost_ret (v := .tuple #[.agg (rowV 32 hz).toArray, .bool false]) ?_ rfl ⟨rfl, setCells_below B.out (Nat.le_refl _) _ _⟩
    have hlv := run_loadVar_mid (P := Tryd.prog) _ _ _ _ _ _ (R.out.stored hz).range Tryd.underlying28 rfl (info_hash32 _)
    exact results_two Tryd.results15 rfl rfl hlv
  by_cases h3 : (d : Int) < level
  · clear hno
    go_enter Tryd.func15, Tryd.ntmps15
    go_wp2_with (first
    | (go_at_call 18; refine (len_any H.out.box (by rw [lv_zero]; omega)).mono ?_; rintro e w' ⟨rfl, rfl⟩; rw [lv_zero])
    | refine wpList_store_mid rfl 28 _ _ rfl w.heap.size 0 (rowV 32 hz).toArray rfl rfl (R.out.thereA _) (info_hash32A _) (rowV_oneA _ _) ?_)
    refine bodyPost_ret (v := .tuple #[.agg (rowV 32 hz).toArray, .bool false]) ?_ rfl ⟨rfl, setCells_below B.out (Nat.le_refl _) _ _⟩
    have hlv := run_loadVar_mid (P := Tryd.prog) _ _ _ _ _ _ (R.out.stored hz).range Tryd.underlying28 rfl (info_hash32 _)
    exact results_two Tryd.results15 rfl rfl hlv
  obtain ⟨k, rfl, hk, hi⟩ : ∃ k : Nat, level = k ∧ k ≤ d ∧ ((2 ^ (d - k) : Nat) : Int) ≤ i := by
    rcases hno with h | h | h | h
    · exact absurd h h1
    · exact absurd h h2
    · exact absurd h h3
    · exact h
  obtain ⟨p, hp⟩ : ∃ p : Int, ((2 ^ (d - k) : Nat) : Int) = p := ⟨_, rfl⟩
  rw [hp] at hi
  have HK := hide hk; have HP := hide hp
  clear hk hp
  go_enter Tryd.func15, Tryd.ntmps15
  go_wp2_with (first
    | (go_at_call 18; refine (len_any H.out.box (by rw [lv_zero]; omega)).mono ?_; rintro e w' ⟨rfl, rfl⟩; rw [lv_zero])
    | (go_at_call 26; refine (room_any H.out.box HD.out _ HK.out).mono ?_; rintro e w' ⟨rfl, rfl⟩; rw [HP.out])
    | refine wpList_store_mid rfl 28 _ _ rfl w.heap.size 0 (rowV 32 hz).toArray rfl rfl (R.out.thereA _) (info_hash32A _) (rowV_oneA _ _) ?_)
  refine bodyPost_ret (v := .tuple #[.agg (rowV 32 hz).toArray, .bool false]) ?_ rfl ⟨rfl, setCells_below B.out (Nat.le_refl _) _ _⟩
  have hlv := run_loadVar_mid (P := Tryd.prog) _ _ _ _ _ _ (R.out.stored hz).range Tryd.underlying28 rfl (info_hash32 _)
  exact results_two Tryd.results15 rfl rfl hlv
set_option maxRecDepth 100000 in
set_option maxHeartbeats 8000000 in
theorem node_yes {w : World} {g d : Nat} {S : Nat → Prop} {L : List Hs} (h : Tr w g S d L) (n level i : Nat) (hn : n ≤ L.length) (hl : level ≤ d) (hi : i < 2 ^ (d - level)) (ht : Tab w 1) :
    Calls Tryd.prog 15 #[.pointer (some ⟨g, 0, none⟩), .int .u64 n, .int .i64 level, .int .u64 i] w fun e w' => e = .returned (.tuple #[.agg (rowV 32 (tn (L.take n) level i)).toArray, .bool true]) ∧ Below w.heap.size w w' := by
  have R := hide (BRow.zeros32 w (g := w.heap.size) rfl)
  have B : Hid (Below w.heap.size w (w.alloc (.cells #[.int .u8 0, .int .u8 0, .int .u8 0, .int .u8 0, .int .u8 0, .int .u8 0, .int .u8 0, .int .u8 0, .int .u8 0, .int .u8 0, .int .u8 0, .int .u8 0, .int .u8 0, .int .u8 0, .int .u8 0, .int .u8 0, .int .u8 0, .int .u8 0, .int .u8 0, .int .u8 0, .int .u8 0, .int .u8 0, .int .u8 0, .int .u8 0, .int .u8 0, .int .u8 0, .int .u8 0, .int .u8 0, .int .u8 0, .int .u8 0, .int .u8 0, .int .u8 0] 28))) := bAl (bMe w)
  have H := hide (h.below B.out)
  have HT := hide (ht.below B.out)
  have HD := hide h.dep
  have hfew := h.few
  have hd := h.dep
  clear h ht
  have c0 := H.out.box.c0
  obtain ⟨p, hp⟩ : ∃ p : Int, ((2 ^ (d - level) : Nat) : Int) = p := ⟨_, rfl⟩
  have hip : (i : Int) < p := by omega
  have HK := hide hl; have HP := hide hp
  have hni : (n : Int) ≤ (L.length : Int) := by omega
  have hli : (level : Int) ≤ (d : Int) := by omega
  have hl32 : (level : Int) ≤ 32 := by omega
  have hl33 : (level : Int) < 33 := by omega
  have hfi : (L.length : Int) ≤ 1000 := by omega
  obtain ⟨q, hq⟩ : ∃ q, n / 2 ^ level = q := ⟨_, rfl⟩
  have hdq : (n : Int) / 2 ^ level = (q : Int) := by rw [← hq]; simp
  have hq2 : q * 2 ^ level ≤ n ∧ n < (q + 1) * 2 ^ level := by
    have hp : 0 < 2 ^ level := Nat.two_pow_pos level
    refine ⟨by rw [← hq]; exact Nat.div_mul_le_self n _, ?_⟩
    rw [← hq, Nat.add_mul, Nat.one_mul]
    exact Nat.lt_div_mul_add hp
  have hlo : Hid (w.heap.size < (w.alloc (.cells #[.int .u8 0, .int .u8 0, .int .u8 0, .int .u8 0, .int .u8 0, .int .u8 0, .int .u8 0, .int .u8 0, .int .u8 0, .int .u8 0, .int .u8 0, .int .u8 0, .int .u8 0, .int .u8 0, .int .u8 0, .int .u8 0, .int .u8 0, .int .u8 0, .int .u8 0, .int .u8 0, .int .u8 0, .int .u8 0, .int .u8 0, .int .u8 0, .int .u8 0, .int .u8 0, .int .u8 0, .int .u8 0, .int .u8 0, .int .u8 0, .int .u8 0, .int .u8 0] 28)).heap.size) := by show _ < _; simp
  clear hp
  obtain ⟨N, hN⟩ : ∃ N, tn (L.take n) level i = N := ⟨_, rfl⟩
  have HN := hide hN
  by_cases hlt : i < q
  · have hiq : (i : Int) < (q : Int) := by omega
    have hm : (i + 1) * 2 ^ level ≤ n := Nat.le_trans (Nat.mul_le_mul_right _ hlt) hq2.1
    have hrow : (lv L level)[i]? = some N := by
      have hp : 0 < 2 ^ level := Nat.two_pow_pos level
      rw [lv_get L level i ((Nat.le_div_iff_mul_le hp).2 (show (i + 1) * 2 ^ level ≤ L.length by omega)), ← hN, tn_take L n level i hm]
    obtain ⟨blk, off, cap, hx, _, hcp⟩ := H.out.box.read (by omega) hrow
    have hml : i < (lv L level).length := (List.getElem?_eq_some_iff.1 hrow).1
    have hmi : (i : Int) < ((lv L level).length : Int) := by omega
    have hc1 := hx.cell
    have HX := hide hx.row
    clear hq hq2 hN hm hrow hx hml hi hl hn hlt
    go_enter Tryd.func15, Tryd.ntmps15
    generalize (lv L level).length = m at *
    go_wp2_with (first
      | (go_at_call 18; refine (len_any H.out.box (by rw [lv_zero]; omega)).mono ?_; rintro e w' ⟨rfl, rfl⟩; rw [lv_zero])
      | (go_at_call 26; refine (room_any H.out.box HD.out _ HK.out).mono ?_; rintro e w' ⟨rfl, rfl⟩; rw [HP.out])
      | refine wpList_load_mid rfl 28 _ rfl blk (off + i * 32) rfl (rowV 32 N) _ HX.out Tryd.underlying28 rfl (info_hash32 _) ?_
      | refine wpList_store_mid rfl 28 _ _ rfl w.heap.size 0 (rowV 32 N).toArray rfl rfl (R.out.thereA _) (info_hash32A _) (rowV_oneA _ _) ?_)
    refine bodyPost_ret (v := .tuple #[.agg (rowV 32 N).toArray, .bool true]) ?_ rfl ⟨by rw [HN.out], setCells_below B.out (Nat.le_refl _) _ _⟩
    have hlv := run_loadVar_mid (P := Tryd.prog) _ _ _ _ _ _ (R.out.stored N).range Tryd.underlying28 rfl (info_hash32 _)
    exact results_two Tryd.results15 rfl rfl hlv
  by_cases hgt : q < i
  · have hiq : (q : Int) < (i : Int) := by omega
    have hiq2 : ¬ (i : Int) < (q : Int) := by omega
    have hm : (q + 1) * 2 ^ level ≤ i * 2 ^ level := Nat.mul_le_mul_right _ hgt
    have HE : Hid (demp level = N) := by
      show _ = _
      rw [← hN, tn_out (L.take n) level i (by rw [List.length_take]; omega)]
    clear hq hq2 hN hm hi hl hn hlt hgt
    go_enter Tryd.func15, Tryd.ntmps15
    go_wp2_with (first
      | (go_at_call 18; refine (len_any H.out.box (by rw [lv_zero]; omega)).mono ?_; rintro e w' ⟨rfl, rfl⟩; rw [lv_zero])
      | (go_at_call 26; refine (room_any H.out.box HD.out _ HK.out).mono ?_; rintro e w' ⟨rfl, rfl⟩; rw [HP.out]))
    generalize w.alloc (.cells #[.int .u8 0, .int .u8 0, .int .u8 0, .int .u8 0, .int .u8 0, .int .u8 0, .int .u8 0, .int .u8 0, .int .u8 0, .int .u8 0, .int .u8 0, .int .u8 0, .int .u8 0, .int .u8 0, .int .u8 0, .int .u8 0, .int .u8 0, .int .u8 0, .int .u8 0, .int .u8 0, .int .u8 0, .int .u8 0, .int .u8 0, .int .u8 0, .int .u8 0, .int .u8 0, .int .u8 0, .int .u8 0, .int .u8 0, .int .u8 0, .int .u8 0, .int .u8 0] 28) = w1 at *
    refine (empty_any (level : Int) HT.out).mono ?_
    rintro e w2 ⟨rfl, hb⟩
    rw [lev_nat level (by omega), HE.out]
    replace R := hide (R.out.after hb rfl)
    replace B := hide (bOn B.out hb)
    clear hb
    go_wp2_with (refine wpList_store_mid rfl 28 _ _ rfl w.heap.size 0 (rowV 32 N).toArray rfl rfl (R.out.thereA _) (info_hash32A _) (rowV_oneA _ _) ?_)
    refine bodyPost_ret (v := .tuple #[.agg (rowV 32 N).toArray, .bool true]) ?_ rfl ⟨by rw [HN.out], setCells_below B.out (Nat.le_refl _) _ _⟩
    have hlv := run_loadVar_mid (P := Tryd.prog) _ _ _ _ _ _ (R.out.stored N).range Tryd.underlying28 rfl (info_hash32 _)
    exact results_two Tryd.results15 rfl rfl hlv
  · obtain rfl : i = q := by omega
    have HE : Hid (tn (L.take n) level (n / 2 ^ level) = N) := by show _ = _; rw [hq]; exact hN
    have HNL := hide hn
    clear hq hq2 hN hi hl hn hlt hgt
    go_enter Tryd.func15, Tryd.ntmps15
    go_wp2_with (first
      | (go_at_call 18; refine (len_any H.out.box (by rw [lv_zero]; omega)).mono ?_; rintro e w' ⟨rfl, rfl⟩; rw [lv_zero])
      | (go_at_call 26; refine (room_any H.out.box HD.out _ HK.out).mono ?_; rintro e w' ⟨rfl, rfl⟩; rw [HP.out]))
    generalize w.alloc (.cells #[.int .u8 0, .int .u8 0, .int .u8 0, .int .u8 0, .int .u8 0, .int .u8 0, .int .u8 0, .int .u8 0, .int .u8 0, .int .u8 0, .int .u8 0, .int .u8 0, .int .u8 0, .int .u8 0, .int .u8 0, .int .u8 0, .int .u8 0, .int .u8 0, .int .u8 0, .int .u8 0, .int .u8 0, .int .u8 0, .int .u8 0, .int .u8 0, .int .u8 0, .int .u8 0, .int .u8 0, .int .u8 0, .int .u8 0, .int .u8 0, .int .u8 0, .int .u8 0] 28) = w1 at *
    refine (edge_any H.out n HNL.out level HK.out HT.out).mono ?_
    rintro e w2 ⟨rfl, hb⟩
    rw [HE.out]
    replace R := hide (R.out.after hb rfl)
    replace B := hide (bOn B.out hb)
    clear hb
    go_wp2_with (refine wpList_store_mid rfl 28 _ _ rfl w.heap.size 0 (rowV 32 N).toArray rfl rfl (R.out.thereA _) (info_hash32A _) (rowV_oneA _ _) ?_)
    refine bodyPost_ret (v := .tuple #[.agg (rowV 32 N).toArray, .bool true]) ?_ rfl ⟨by rw [HN.out], setCells_below B.out (Nat.le_refl _) _ _⟩
    have hlv := run_loadVar_mid (P := Tryd.prog) _ _ _ _ _ _ (R.out.stored N).range Tryd.underlying28 rfl (info_hash32 _)
    exact results_two Tryd.results15 rfl rfl hlv
end Go.Proofs.YtjkhboejhcbdpaaDoor
