/- The contract of a tree's edge over this translation (written by gen-treeedge.py). -/
import Derived.Test.YtjkhboejhcbdpaaDoorTreeLeaf
import Derived.Test.YtjkhboejhcbdpaaDoorHand
namespace Go.Proofs.YtjkhboejhcbdpaaDoor
open Go.RowKit Go.Lib
attribute [local go_sem] setCell_drewN alloc_drewN

theorem Rw.putA {w : World} {g : Nat} {S : Nat → Prop} {d : Nat} {M : Nat → List Hs} (h : Rw w g S d M) {b : Nat} (hb : ¬ S b) (o : Nat) (vs : List Value) : Rw (w.setCells b o vs) g S d M :=
  h.of (by rw [setCells_size]; exact Nat.le_refl _) fun k hk => setCells_block _ _ _ _ _ (by rintro rfl; exact hb hk)
/-- What stands while an edge is gone up. -/
structure ED (w0 w : World) (g g1 g2 : Nat) (S : Nat → Prop) (d : Nat) (L : List Hs) (Fe Fh : Hs) : Prop where
  res : BRow w w0.heap.size 32 (fun _ => 0)
  e : BRow w g1 32 Fe
  h : BRow w g2 32 Fh
  box : Rw w g S d (lv L)
  lo1 : w0.heap.size < g1
  lo2 : g1 < g2
  low : ∀ k, S k → k < w0.heap.size
  below : Below w0.heap.size w0 w
theorem ED.after {w0 w w' : World} {g g1 g2 : Nat} {S : Nat → Prop} {d : Nat} {L : List Hs} {Fe Fh : Hs} (h : ED w0 w g g1 g2 S d L Fe Fh) (hb : Below w.heap.size w w') : ED w0 w' g g1 g2 S d L Fe Fh :=
  ⟨h.res.after hb rfl, h.e.after hb rfl, h.h.after hb rfl, h.box.below hb, h.lo1, h.lo2, h.low, bOn h.below hb⟩
theorem BRow.off {w : World} {g n : Nat} {f : Nat → Int} (h : BRow w g n f) {b : Nat} (hb : g ≠ b) (o : Nat) (vs : List Value) : BRow (w.setCells b o vs) g n f :=
  h.of (by rw [setCells_size]; exact Nat.le_refl _) (setCells_block _ _ _ _ _ hb)
theorem ED.putE {w0 w : World} {g g1 g2 : Nat} {S : Nat → Prop} {d : Nat} {L : List Hs} {Fe Fh : Hs} (h : ED w0 w g g1 g2 S d L Fe Fh) (F : Hs) : ED w0 (w.setCells g1 0 (rowV 32 F)) g g1 g2 S d L F Fh :=
  ⟨h.res.off (by have := h.lo1; omega) _ _, h.e.stored F, h.h.off (by have := h.lo2; omega) _ _, h.box.putA (fun e => by have := h.low _ e; have := h.lo1; omega) _ _, h.lo1, h.lo2, h.low, setCells_below h.below (by have := h.lo1; omega) _ _⟩
theorem ED.putH {w0 w : World} {g g1 g2 : Nat} {S : Nat → Prop} {d : Nat} {L : List Hs} {Fe Fh : Hs} (h : ED w0 w g g1 g2 S d L Fe Fh) (F : Hs) : ED w0 (w.setCells g2 0 (rowV 32 F)) g g1 g2 S d L Fe F :=
  ⟨h.res.off (by have := h.lo1; have := h.lo2; omega) _ _, h.e.off (by have := h.lo2; omega) _ _, h.h.stored F, h.box.putA (fun e => by have := h.low _ e; have := h.lo1; have := h.lo2; omega) _ _, h.lo1, h.lo2, h.low, setCells_below h.below (by have := h.lo1; have := h.lo2; omega) _ _⟩
/-- One sum of one row, as it is read in a region. -/
structure XR (g b blk off m cap m1 : Nat) (Fl : Hs) (w : World) : Prop where
  cell : w.cell? ⟨g, 1 + b, none⟩ = some (.slice (some ⟨blk, off, none⟩) m cap)
  row : w.rangeAt blk (off + m1 * 32) (rowV 32 Fl)
  lt1 : g < w.heap.size
  lt2 : blk < w.heap.size
theorem XR.after {g b blk off m cap m1 : Nat} {Fl : Hs} {w w' : World} (h : XR g b blk off m cap m1 Fl w) (hb : Below w.heap.size w w') : XR g b blk off m cap m1 Fl w' :=
  ⟨(hb.cell (p := ⟨g, 1 + b, none⟩) h.lt1).trans h.cell, fun j v hv => (hb.cell (p := ⟨blk, off + m1 * 32 + j, none⟩) h.lt2).trans (h.row j v hv), Nat.lt_of_lt_of_le h.lt1 hb.size, Nat.lt_of_lt_of_le h.lt2 hb.size⟩
theorem XR.of {g b blk off m cap m1 : Nat} {Fl : Hs} {w w' : World} (h : XR g b blk off m cap m1 Fl w) (hs : w.heap.size ≤ w'.heap.size) (h1 : w'.heap[g]? = w.heap[g]?) (h2 : w'.heap[blk]? = w.heap[blk]?) : XR g b blk off m cap m1 Fl w' :=
  ⟨(World.cell?_of_block (w := w) (a := ⟨g, 1 + b, none⟩) h1).trans h.cell, fun j v hv => (World.cell?_of_block (w := w) (a := ⟨blk, off + m1 * 32 + j, none⟩) h2).trans (h.row j v hv), Nat.lt_of_lt_of_le h.lt1 hs, Nat.lt_of_lt_of_le h.lt2 hs⟩
theorem Rw.read {w : World} {g : Nat} {S : Nat → Prop} {d : Nat} {M : Nat → List Hs} (h : Rw w g S d M) {b : Nat} (hb : b < 33) {m1 : Nat} {Fl : Hs} (hx : (M b)[m1]? = some Fl) :
    ∃ blk off cap, XR g b blk off (M b).length cap m1 Fl w ∧ S blk ∧ (M b).length ≤ cap := by
  obtain ⟨v, hc, hr, hS⟩ := h.row hb
  obtain ⟨ao, cap, rfl, h1, _, _, hw⟩ := hr.form
  obtain ⟨blk, off, rfl, hl, hra⟩ := hw.get hx
  exact ⟨blk, off, cap, ⟨by rw [Nat.add_comm]; exact hc, hra, h.lt, hl⟩, (hS blk rfl).1, h1⟩
set_option maxRecDepth 100000 in
set_option maxHeartbeats 8000000 in
theorem edge_any {w : World} {g d : Nat} {S : Nat → Prop} {L : List Hs} (h : Tr w g S d L) (n : Nat) (hn : n ≤ L.length) (level : Nat) (hlevel : level ≤ d) (ht : Tab w 1) :
    Calls Tryd.prog 28 #[.pointer (some ⟨g, 0, none⟩), .int .u64 n, .int .i64 level] w fun e w' => e = .returned (.agg (rowV 32 (tn (L.take n) level (n / 2 ^ level))).toArray) ∧ Below w.heap.size w w' := by
  have HT := hide ht; have HR := hide h
  have hd := h.dep
  have hfew := h.few
  have hni : (n : Int) ≤ 1000 := by omega
  have hlv : (level : Int) ≤ 32 := by omega
  clear ht h
  have R := hide (BRow.zeros32 w (g := w.heap.size) rfl)
  have B : Hid (Below w.heap.size w (w.alloc (.cells #[.int .u8 0, .int .u8 0, .int .u8 0, .int .u8 0, .int .u8 0, .int .u8 0, .int .u8 0, .int .u8 0, .int .u8 0, .int .u8 0, .int .u8 0, .int .u8 0, .int .u8 0, .int .u8 0, .int .u8 0, .int .u8 0, .int .u8 0, .int .u8 0, .int .u8 0, .int .u8 0, .int .u8 0, .int .u8 0, .int .u8 0, .int .u8 0, .int .u8 0, .int .u8 0, .int .u8 0, .int .u8 0, .int .u8 0, .int .u8 0, .int .u8 0, .int .u8 0] 28))) := bAl (bMe w)
  go_enter Tryd.func28, Tryd.ntmps28
  go_wp2_with fail
  generalize w.alloc (.cells #[.int .u8 0, .int .u8 0, .int .u8 0, .int .u8 0, .int .u8 0, .int .u8 0, .int .u8 0, .int .u8 0, .int .u8 0, .int .u8 0, .int .u8 0, .int .u8 0, .int .u8 0, .int .u8 0, .int .u8 0, .int .u8 0, .int .u8 0, .int .u8 0, .int .u8 0, .int .u8 0, .int .u8 0, .int .u8 0, .int .u8 0, .int .u8 0, .int .u8 0, .int .u8 0, .int .u8 0, .int .u8 0, .int .u8 0, .int .u8 0, .int .u8 0, .int .u8 0] 28) = w1 at *
  refine (empty_any 0 (HT.out.below B.out)).mono ?_
  rintro e w2 ⟨rfl, hb⟩
  replace R := hide (R.out.after hb rfl)
  replace B := hide (bOn B.out hb)
  clear hb
  obtain ⟨F0, hF0⟩ : ∃ F, demp 0 = F := ⟨_, rfl⟩
  rw [show lev 0 = 0 from rfl, hF0]
  have HDE := hide hF0
  have HL0 : Hid (w.heap.size < w2.heap.size) := R.out.lt
  have R2 := hide (BRow.zeros32 w2 (g := w2.heap.size) rfl)
  replace R := hide (R.out.past (.cells #[.int .u8 0, .int .u8 0, .int .u8 0, .int .u8 0, .int .u8 0, .int .u8 0, .int .u8 0, .int .u8 0, .int .u8 0, .int .u8 0, .int .u8 0, .int .u8 0, .int .u8 0, .int .u8 0, .int .u8 0, .int .u8 0, .int .u8 0, .int .u8 0, .int .u8 0, .int .u8 0, .int .u8 0, .int .u8 0, .int .u8 0, .int .u8 0, .int .u8 0, .int .u8 0, .int .u8 0, .int .u8 0, .int .u8 0, .int .u8 0, .int .u8 0, .int .u8 0] 28))
  replace B := hide (bAl (o := (.cells #[.int .u8 0, .int .u8 0, .int .u8 0, .int .u8 0, .int .u8 0, .int .u8 0, .int .u8 0, .int .u8 0, .int .u8 0, .int .u8 0, .int .u8 0, .int .u8 0, .int .u8 0, .int .u8 0, .int .u8 0, .int .u8 0, .int .u8 0, .int .u8 0, .int .u8 0, .int .u8 0, .int .u8 0, .int .u8 0, .int .u8 0, .int .u8 0, .int .u8 0, .int .u8 0, .int .u8 0, .int .u8 0, .int .u8 0, .int .u8 0, .int .u8 0, .int .u8 0] 28)) B.out)
  clear hF0
  go_wp2_with (refine wpList_store_stop rfl 28 _ _ rfl w2.heap.size 0 (rowV 32 F0) rfl rfl (R2.out.thereA F0) (info_hash32A F0) (rowV_oneA _ _) ?_)
  intro w3 hw3
  have E : Hid (BRow w3 w.heap.size 32 (fun _ => 0) ∧ BRow w3 w2.heap.size 32 F0 ∧ Below w.heap.size w w3) := by
    show _ ∧ _ ∧ _
    rw [hw3.out]
    exact ⟨R.out.off (by have := HL0.out; omega) _ _, R2.out.stored F0, setCells_below B.out (by have := HL0.out; omega) _ _⟩
  clear hw3 R R2 B
  generalize w2.heap.size = g1 at *
  have R3 := hide (BRow.zeros32 w3 (g := w3.heap.size) rfl)
  have E1 : Hid (BRow (w3.alloc (.cells #[.int .u8 0, .int .u8 0, .int .u8 0, .int .u8 0, .int .u8 0, .int .u8 0, .int .u8 0, .int .u8 0, .int .u8 0, .int .u8 0, .int .u8 0, .int .u8 0, .int .u8 0, .int .u8 0, .int .u8 0, .int .u8 0, .int .u8 0, .int .u8 0, .int .u8 0, .int .u8 0, .int .u8 0, .int .u8 0, .int .u8 0, .int .u8 0, .int .u8 0, .int .u8 0, .int .u8 0, .int .u8 0, .int .u8 0, .int .u8 0, .int .u8 0, .int .u8 0] 28)) w.heap.size 32 (fun _ => 0) ∧ BRow (w3.alloc (.cells #[.int .u8 0, .int .u8 0, .int .u8 0, .int .u8 0, .int .u8 0, .int .u8 0, .int .u8 0, .int .u8 0, .int .u8 0, .int .u8 0, .int .u8 0, .int .u8 0, .int .u8 0, .int .u8 0, .int .u8 0, .int .u8 0, .int .u8 0, .int .u8 0, .int .u8 0, .int .u8 0, .int .u8 0, .int .u8 0, .int .u8 0, .int .u8 0, .int .u8 0, .int .u8 0, .int .u8 0, .int .u8 0, .int .u8 0, .int .u8 0, .int .u8 0, .int .u8 0] 28)) g1 32 F0 ∧ Below w.heap.size w (w3.alloc (.cells #[.int .u8 0, .int .u8 0, .int .u8 0, .int .u8 0, .int .u8 0, .int .u8 0, .int .u8 0, .int .u8 0, .int .u8 0, .int .u8 0, .int .u8 0, .int .u8 0, .int .u8 0, .int .u8 0, .int .u8 0, .int .u8 0, .int .u8 0, .int .u8 0, .int .u8 0, .int .u8 0, .int .u8 0, .int .u8 0, .int .u8 0, .int .u8 0, .int .u8 0, .int .u8 0, .int .u8 0, .int .u8 0, .int .u8 0, .int .u8 0, .int .u8 0, .int .u8 0] 28)) ∧ g1 < w3.heap.size) := ⟨E.out.1.past _, E.out.2.1.past _, bAl E.out.2.2, E.out.2.1.lt⟩
  go_wp2_with (first
    | refine wpList_load_mid rfl 28 _ rfl g1 0 rfl (rowV 32 F0) _ E.out.2.1.range Tryd.underlying28 rfl (info_hash32 _) ?_
    | refine wpList_store_stop rfl 28 _ _ rfl w3.heap.size 0 (rowV 32 F0) rfl rfl (R3.out.thereA F0) (info_hash32A F0) (rowV_oneA _ _) ?_)
  intro w4 hw4
  have E4 : Hid (ED w w4 g g1 w3.heap.size S d L F0 F0) := by
    show ED _ _ _ _ _ _ _ _ _ _
    rw [hw4.out]
    have hS3 : ∀ k, S k → k < w3.heap.size := fun k hk => Nat.lt_of_lt_of_le (HR.out.box.low k hk) E.out.2.2.size
    exact ⟨E1.out.1.off (by have := E1.out.2.2.2; have := HL0.out; omega) _ _, E1.out.2.1.off (by have := E1.out.2.2.2; omega) _ _, R3.out.stored F0, (HR.out.box.below E1.out.2.2.1).putA (fun e => by have := hS3 _ e; omega) _ _, HL0.out, E1.out.2.2.2, HR.out.box.low, setCells_below E1.out.2.2.1 (by have := E1.out.2.2.2; have := HL0.out; omega) _ _⟩
  clear hw4 E E1 R3 HL0
  generalize w3.heap.size = g2 at *
  have HN0 : Hid (tn (L.take n) 0 (n / 2 ^ 0) = F0) := by
    show _ = _
    rw [tn_zero, List.getD_eq_getElem?_getD, List.getElem?_eq_none (by simp; omega), ← HDE.out]; rfl
  go_wp2
  go_loopg [14] level (fun gk t wr => ∃ b : Nat, gk + b = level ∧ t = .int .i64 b ∧ ED w wr g g1 g2 S d L (demp b) (tn (L.take n) b (n / 2 ^ b)))
  case atStart => exact ⟨0, by omega, rfl, by rw [HN0.out, HDE.out]; exact E4.out⟩
  case round =>
    clear E4 HN0 HDE
    obtain ⟨b, hb0, rfl, he⟩ := hrel
    have E := hide he; have HK := hide hb0
    clear he hb0
    by_cases hlt : b < level
    · have hbi : (b : Int) < (level : Int) := by omega
      have hb32 : (b : Int) ≤ 31 := by omega
      have hb33 : ¬ (33 : Int) ≤ (b : Int) := by omega
      obtain ⟨q, hq⟩ : ∃ q, n / 2 ^ b = q := ⟨_, rfl⟩
      have hqn : q ≤ n := by rw [← hq]; exact Nat.div_le_self _ _
      have hdq : (n : Int) / 2 ^ b = (q : Int) := by rw [← hq]; simp
      have hqi : (q : Int) ≤ 1000 := by omega
      obtain ⟨Fe, hFe⟩ : ∃ F, demp b = F := ⟨_, rfl⟩
      obtain ⟨Fh, hFh⟩ : ∃ F, tn (L.take n) b q = F := ⟨_, rfl⟩
      have hup : n / 2 ^ (b + 1) = q / 2 := by rw [Nat.pow_succ, ← Nat.div_div_eq_div_mul, hq]
      have hokL : Hoks (L.take n) := fun f hf => HR.out.ok f (List.mem_of_mem_take hf)
      have HFE : Hid (Hok Fe) := by rw [← hFe]; exact demp_ok b
      have HFH : Hid (Hok Fh) := by rw [← hFh]; exact tn_ok hokL b q
      have HDE := hide hFe
      have hmul : q * 2 ^ b ≤ n ∧ n < (q + 1) * 2 ^ b := by
        have hp : 0 < 2 ^ b := Nat.two_pow_pos b
        refine ⟨by rw [← hq]; exact Nat.div_mul_le_self n _, ?_⟩
        rw [← hq, Nat.add_mul, Nat.one_mul]
        exact Nat.lt_div_mul_add hp
      rw [hq, hFe, hFh] at E
      by_cases hev : q % 2 = 0
      · have hevi : (q : Int) % 2 = 0 := by omega
        have HN : Hid (tn (L.take n) (b + 1) (n / 2 ^ (b + 1)) = dnode Fh Fe) := by
          show _ = _
          rw [hup, tn_next, show 2 * (q / 2) = q by omega, hFh, tn_out (L.take n) b (q + 1) (by rw [List.length_take]; omega), hFe]
        clear hq hFe hFh hup hmul hokL
        go_wp2_with (first
          | refine wpList_load_mid rfl 28 _ rfl g2 0 rfl (rowV 32 Fh) _ E.out.h.range Tryd.underlying28 rfl (info_hash32 _) ?_
          | refine wpList_load_mid rfl 28 _ rfl g1 0 rfl (rowV 32 Fe) _ E.out.e.range Tryd.underlying28 rfl (info_hash32 _) ?_)
        refine (node_any Fh Fe HFH.out HFE.out (HT.out.below E.out.below)).mono ?_
        rintro e w4 ⟨rfl, hb⟩
        replace E := hide (E.out.after hb)
        clear hb
        obtain ⟨N, hN⟩ : ∃ N, dnode Fh Fe = N := ⟨_, rfl⟩
        rw [hN] at HN
        rw [hN]
        clear hN
        go_wp2_with (refine wpList_store_stop rfl 28 _ _ rfl g2 0 (rowV 32 N) rfl rfl (E.out.h.thereA N) (info_hash32A N) (rowV_oneA _ _) ?_)
        intro w5 hw5
        have E5 : Hid (ED w w5 g g1 g2 S d L Fe N) := by
          show ED _ _ _ _ _ _ _ _ _ _
          rw [hw5.out]; exact E.out.putH N
        clear hw5 E
        obtain ⟨FN, hFN⟩ : ∃ FN, dnode Fe Fe = FN := ⟨_, rfl⟩
        have HE2 : Hid (demp (b + 1) = FN) := by show _ = _; rw [demp_next, HDE.out]; exact hFN
        go_wp2_with (refine wpList_load_mid rfl 28 _ rfl g1 0 rfl (rowV 32 Fe) _ E5.out.e.range Tryd.underlying28 rfl (info_hash32 _) ?_)
        refine (node_any Fe Fe HFE.out HFE.out (HT.out.below E5.out.below)).mono ?_
        rintro e w6 ⟨rfl, hb⟩
        replace E5 := hide (E5.out.after hb)
        clear hb
        rw [hFN]
        clear hFN
        go_wp2_with (refine wpList_store_stop rfl 28 _ _ rfl g1 0 (rowV 32 FN) rfl rfl (E5.out.e.thereA FN) (info_hash32A FN) (rowV_oneA _ _) ?_)
        intro w7 hw7
        have E7 : Hid (ED w w7 g g1 g2 S d L FN N) := by
          show ED _ _ _ _ _ _ _ _ _ _
          rw [hw7.out]; exact E5.out.putE FN
        clear hw7 E5
        go_wp2
        go_roundg (level - b - 1)
        case measure => have := HK.out; omega
        case rel => exact ⟨b + 1, by omega, by go_num, by rw [HE2.out, HN.out]; exact E7.out⟩
      · have hevi : (q : Int) % 2 = 1 := by omega
        obtain ⟨m1, rfl⟩ : ∃ m1, q = m1 + 1 := ⟨q - 1, by omega⟩
        have hdq2 : (n : Int) / 2 ^ b = (m1 : Int) + 1 := by rw [hdq]; omega
        have hevj : ((m1 : Int) + 1) % 2 = 1 := by omega
        have hm1i : (m1 : Int) ≤ 1000 := by omega
        have hwm : IntKind.u64.wrap (m1 : Int) = (m1 : Int) := by rw [IntKind.wrap_u64]; omega
        clear hdq hevi hqi hev
        have hm1 : (m1 + 1) * 2 ^ b ≤ n := hmul.1
        obtain ⟨Fl, hFl⟩ : ∃ F, tn (L.take n) b m1 = F := ⟨_, rfl⟩
        have HFL : Hid (Hok Fl) := by rw [← hFl]; exact tn_ok hokL b m1
        have HN : Hid (tn (L.take n) (b + 1) (n / 2 ^ (b + 1)) = dnode Fl Fh) := by
          show _ = _
          rw [hup, tn_next, show 2 * ((m1 + 1) / 2) = m1 by omega, hFl, hFh]
        have hrow : (lv L b)[m1]? = some Fl := by
          have hp : 0 < 2 ^ b := Nat.two_pow_pos b
          rw [lv_get L b m1 ((Nat.le_div_iff_mul_le hp).2 (show (m1 + 1) * 2 ^ b ≤ L.length by omega)), ← hFl, tn_take L n b m1 hm1]
        obtain ⟨blk, off, cap, hx, hSb, hcp⟩ := E.out.box.read (by omega) hrow
        have hml : m1 < (lv L b).length := (List.getElem?_eq_some_iff.1 hrow).1
        have hmi : (m1 : Int) < ((lv L b).length : Int) := by omega
        have hmi2 : ¬ ((lv L b).length : Int) ≤ (m1 : Int) := by omega
        have X := hide (hx.after (bMe wr).drew)
        replace E := hide (E.out.after (bMe wr).drew)
        have HSB := hide hSb
        have HMS := hide (fun (F : Hs) (w' : World) (hh : ED w w' g g1 g2 S d L Fe Fh) (xx : XR g b blk off (lv L b).length cap m1 Fl w') => (xx.of (w' := w'.setCells g2 0 (rowV 32 F)) (by rw [setCells_size]; exact Nat.le_refl _) (setCells_block _ _ _ _ _ (by rintro rfl; have := hh.low _ hh.box.mine; have := hh.lo1; have := hh.lo2; omega)) (setCells_block _ _ _ _ _ (by rintro rfl; have := hh.low _ HSB.out; have := hh.lo1; have := hh.lo2; omega))))
        clear hq hFe hFh hup hmul hokL hFl hrow hx hSb hm1 HSB hml
        generalize (lv L b).length = m at *
        go_wp2_with fail
        refine wp_region_held_drew (S := XR g b blk off m cap m1 Fl) (by kernel_rfl) X.out (fun _ => ?_)
        refine tk0 (v := .pointer (some ⟨g, 0, none⟩)) (by kernel_rfl) (by kernel_rfl) (by kernel_rfl) (fun _ _ _ h => h) X.out (Or.inl ⟨by rfl, fun w hw => by go_simp; try (with_reducible rfl)⟩) ?_
        simp only [Act.put, List.setIfInBounds_toArray, List.set_cons_zero, List.set_cons_succ]
        refine tk1 (v := .int .i64 (b : Int)) (by kernel_rfl) (by kernel_rfl) (by kernel_rfl) (fun _ _ _ h => h) X.out (Or.inl ⟨by rfl, fun w hw => by go_simp; try (with_reducible rfl)⟩) ?_
        simp only [Act.put, List.setIfInBounds_toArray, List.set_cons_zero, List.set_cons_succ]
        refine tk2 (v := .pointer (some ⟨g, 0, none⟩)) (by kernel_rfl) (by kernel_rfl) (by kernel_rfl) (fun _ _ _ h => h) X.out (Or.inl ⟨by rfl, fun w hw => by go_simp; try (with_reducible rfl)⟩) ?_
        simp only [Act.put, List.setIfInBounds_toArray, List.set_cons_zero, List.set_cons_succ]
        refine tk3 (v := .pointer (some ⟨g, 1, none⟩)) (by kernel_rfl) (by kernel_rfl) (by kernel_rfl) (fun _ _ _ h => h) X.out (Or.inl ⟨by rfl, fun w hw => by go_simp; try (with_reducible rfl)⟩) ?_
        simp only [Act.put, List.setIfInBounds_toArray, List.set_cons_zero, List.set_cons_succ]
        refine tk4 (v := .pointer (some ⟨g, 1 + b, none⟩)) (by kernel_rfl) (by kernel_rfl) (by kernel_rfl) (fun _ _ _ h => h) X.out (Or.inl ⟨by rfl, fun w hw => by go_simp; try (with_reducible rfl)⟩) ?_
        simp only [Act.put, List.setIfInBounds_toArray, List.set_cons_zero, List.set_cons_succ]
        refine tk5 (v := .slice (some ⟨blk, off, none⟩) m cap) (by kernel_rfl) (by kernel_rfl) (by kernel_rfl) (fun _ _ _ h => h) X.out (Or.inl ⟨by rfl, fun w hw => by have c := hw.cell; go_simp; try (with_reducible rfl)⟩) ?_
        simp only [Act.put, List.setIfInBounds_toArray, List.set_cons_zero, List.set_cons_succ]
        refine tk6 (v := .int .u64 ((m1 : Int) + 1)) (by kernel_rfl) (by kernel_rfl) (by kernel_rfl) (fun _ _ _ h => h) X.out (Or.inl ⟨by rfl, fun w hw => by go_simp; try (with_reducible rfl)⟩) ?_
        simp only [Act.put, List.setIfInBounds_toArray, List.set_cons_zero, List.set_cons_succ]
        refine tk7 (v := .int .u64 (m1 : Int)) (by kernel_rfl) (by kernel_rfl) (by kernel_rfl) (fun _ _ _ h => h) X.out (Or.inl ⟨by rfl, fun w hw => by go_simp; try (with_reducible rfl)⟩) ?_
        simp only [Act.put, List.setIfInBounds_toArray, List.set_cons_zero, List.set_cons_succ]
        refine tk8 (v := .pointer (some ⟨blk, off + m1 * 32, none⟩)) (by kernel_rfl) (by kernel_rfl) (by kernel_rfl) (fun _ _ _ h => h) X.out (Or.inl ⟨by rfl, fun w hw => by go_simp; try (with_reducible rfl)⟩) ?_
        simp only [Act.put, List.setIfInBounds_toArray, List.set_cons_zero, List.set_cons_succ]
        refine tk9 (by kernel_rfl) (by kernel_rfl) (by kernel_rfl) (fun _ _ _ h => h) X.out (yieldsIf_load_mid (by rfl) _ _ rfl blk (off + m1 * 32) rfl (rowV 32 Fl) _ (fun _ hw => hw.row) Tryd.underlying28 rfl (info_hash32 _)) ?_
        simp only [Act.put, List.setIfInBounds_toArray, List.set_cons_zero, List.set_cons_succ]
        refine wpAnyH_ready (rs := [10]) (by kernel_rfl) (by simp) ?_
        refine rd10 (fun K hK => ?_) AllReadyH.nil
        rw [if_pos (by rfl)]
        refine wp_load_mid 28 _ rfl g2 0 rfl (rowV 32 Fh) _ E.out.h.range Tryd.underlying28 rfl (info_hash32 _) ?_
        refine hK.out _ _ X.out (fun _ => ?_)
        clear hK K
        simp only [Act.put, List.setIfInBounds_toArray, List.set_cons_zero, List.set_cons_succ]
        refine wpAnyH_ready (rs := [11]) (by kernel_rfl) (by simp) ?_
        refine rd11 (fun K hK => ?_) AllReadyH.nil
        go_simp
        refine (node_any Fl Fh HFL.out HFH.out (HT.out.below E.out.below)).mono ?_
        rintro e w4 ⟨rfl, hb⟩
        simp only []
        replace X := hide (X.out.after hb)
        replace E := hide (E.out.after hb)
        clear hb
        refine hK.out _ _ X.out (fun _ => ?_)
        clear hK K
        obtain ⟨N, hN⟩ : ∃ N, dnode Fl Fh = N := ⟨_, rfl⟩
        rw [hN] at HN
        rw [hN]
        clear hN
        refine wpAnyH_ready (rs := [12]) (by kernel_rfl) (by simp) ?_
        refine rd12 (fun K hK => ?_) AllReadyH.nil
        rw [if_pos (by rfl)]
        refine wp_store_mid _ _ _ rfl g2 0 (rowV 32 N).toArray rfl rfl (E.out.h.thereA N) (info_hash32A _) (rowV_oneA _ _) ?_
        refine hK.out _ _ (HMS.out N w4 E.out X.out) (fun _ => ?_)
        clear hK K
        refine wpAnyH_done (by kernel_rfl) ?_ _
        have E5 : Hid (ED w (w4.setCells g2 0 (rowV 32 N)) g g1 g2 S d L Fe N) := E.out.putH N
        simp only [Act.put]
        generalize w4.setCells g2 0 (rowV 32 N) = w5 at *
        clear E X
        obtain ⟨FN, hFN⟩ : ∃ FN, dnode Fe Fe = FN := ⟨_, rfl⟩
        have HE2 : Hid (demp (b + 1) = FN) := by show _ = _; rw [demp_next, HDE.out]; exact hFN
        go_wp2_with (refine wpList_load_mid rfl 28 _ rfl g1 0 rfl (rowV 32 Fe) _ E5.out.e.range Tryd.underlying28 rfl (info_hash32 _) ?_)
        refine (node_any Fe Fe HFE.out HFE.out (HT.out.below E5.out.below)).mono ?_
        rintro e w6 ⟨rfl, hb⟩
        replace E5 := hide (E5.out.after hb)
        clear hb
        rw [hFN]
        clear hFN
        go_wp2_with (refine wpList_store_stop rfl 28 _ _ rfl g1 0 (rowV 32 FN) rfl rfl (E5.out.e.thereA FN) (info_hash32A FN) (rowV_oneA _ _) ?_)
        intro w7 hw7
        have E7 : Hid (ED w w7 g g1 g2 S d L FN N) := by
          show ED _ _ _ _ _ _ _ _ _ _
          rw [hw7.out]; exact E5.out.putE FN
        clear hw7 E5
        go_wp2
        go_roundg (level - b - 1)
        case measure => have := HK.out; omega
        case rel => exact ⟨b + 1, by omega, by go_num, by rw [HE2.out, HN.out]; exact E7.out⟩
    · obtain rfl : b = level := by have := HK.out; omega
      obtain ⟨F, hF⟩ : ∃ F, tn (L.take n) b (n / 2 ^ b) = F := ⟨_, rfl⟩
      have HF := hide hF
      rw [hF] at E
      clear hF
      go_wp2_with (first
        | refine wpList_load_mid rfl 28 _ rfl g2 0 rfl (rowV 32 F) _ E.out.h.range Tryd.underlying28 rfl (info_hash32 _) ?_
        | refine wpList_store_mid rfl 28 _ _ rfl w.heap.size 0 (rowV 32 F).toArray rfl rfl (E.out.res.thereA _) (info_hash32A _) (rowV_oneA _ _) ?_)
      refine bodyPost_ret (v := .agg (rowV 32 F).toArray) ?_ rfl ⟨by rw [HF.out], setCells_below E.out.below (Nat.le_refl _) _ _⟩
      have hlv := run_loadVar_mid (P := Tryd.prog) _ _ _ _ _ _ (E.out.res.stored F).range Tryd.underlying28 rfl (info_hash32 _)
      exact results_one Tryd.results28 rfl hlv
end Go.Proofs.YtjkhboejhcbdpaaDoor
