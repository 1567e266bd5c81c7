/- The contract of a tree's edge over this translation (written by gen-treeedge.py). The contracts of a tree's Node and Root over this translation (written by gen-treenode.py). The contracts of proof.Make over this translation (written by gen-proofmake.py). -/
import Derived.Test.YtjkhboejhcbdpaaDoorTreeLeaf
import Derived.Test.YtjkhboejhcbdpaaDoorHand
import Derived.Test.YtjkhboejhcbdpaaDoorProofEq
import Derived.Laws.BitsAllLaws
/- The contract of a tree's edge over this translation (written by gen-treeedge.py). -/
namespace Go.Proofs.YtjkhboejhcbdpaaDoor
open Go.RowKit Go.Lib
attribute [local go_sem] setCell_drewN alloc_drewN

theorem Rw.putA {w : World} {g : Nat} {S : Nat → Prop} {d : Nat} {M : Nat → List Hs} (h : Rw w g S d M) {b : Nat} (hb : ¬ S b) (o : Nat) (vs : List Value) : Rw (w.setCells b o vs) g S d M :=
  h.of (by rw [setCells_size]; exact Nat.le_refl _) fun k hk => setCells_block _ _ _ _ _ (by rintro rfl; exact hb hk)
/-- What stands while an edge is gone up. -/
structure ED (w0 w : World) (g g1 g2 : Nat) (S : Nat → Prop) (d : Nat) (L : List Hs) (Fe Fh : Hs) : Prop where
  res : BRow w w0.heap.size 32 (fun _ => 0)
  e : BRow w g1 32 Fe
  h : BRow w g2 32 Fh
  box : Rw w g S d (lv L)
  lo1 : w0.heap.size < g1
  lo2 : g1 < g2
  low : ∀ k, S k → k < w0.heap.size
  below : Below w0.heap.size w0 w
theorem ED.after {w0 w w' : World} {g g1 g2 : Nat} {S : Nat → Prop} {d : Nat} {L : List Hs} {Fe Fh : Hs} (h : ED w0 w g g1 g2 S d L Fe Fh) (hb : Below w.heap.size w w') : ED w0 w' g g1 g2 S d L Fe Fh :=
  ⟨h.res.after hb rfl, h.e.after hb rfl, h.h.after hb rfl, h.box.below hb, h.lo1, h.lo2, h.low, bOn h.below hb⟩
theorem BRow.off {w : World} {g n : Nat} {f : Nat → Int} (h : BRow w g n f) {b : Nat} (hb : g ≠ b) (o : Nat) (vs : List Value) : BRow (w.setCells b o vs) g n f :=
  h.of (by rw [setCells_size]; exact Nat.le_refl _) (setCells_block _ _ _ _ _ hb)
theorem ED.putE {w0 w : World} {g g1 g2 : Nat} {S : Nat → Prop} {d : Nat} {L : List Hs} {Fe Fh : Hs} (h : ED w0 w g g1 g2 S d L Fe Fh) (F : Hs) : ED w0 (w.setCells g1 0 (rowV 32 F)) g g1 g2 S d L F Fh :=
  ⟨h.res.off (by have := h.lo1; omega) _ _, h.e.stored F, h.h.off (by have := h.lo2; omega) _ _, h.box.putA (fun e => by have := h.low _ e; have := h.lo1; omega) _ _, h.lo1, h.lo2, h.low, setCells_below h.below (by have := h.lo1; omega) _ _⟩
theorem ED.putH {w0 w : World} {g g1 g2 : Nat} {S : Nat → Prop} {d : Nat} {L : List Hs} {Fe Fh : Hs} (h : ED w0 w g g1 g2 S d L Fe Fh) (F : Hs) : ED w0 (w.setCells g2 0 (rowV 32 F)) g g1 g2 S d L Fe F :=
  ⟨h.res.off (by have := h.lo1; have := h.lo2; omega) _ _, h.e.off (by have := h.lo2; omega) _ _, h.h.stored F, h.box.putA (fun e => by have := h.low _ e; have := h.lo1; have := h.lo2; omega) _ _, h.lo1, h.lo2, h.low, setCells_below h.below (by have := h.lo1; have := h.lo2; omega) _ _⟩
/-- One sum of one row, as it is read in a region. -/
structure XR (g b blk off m cap m1 : Nat) (Fl : Hs) (w : World) : Prop where
  cell : w.cell? ⟨g, 1 + b, none⟩ = some (.slice (some ⟨blk, off, none⟩) m cap)
  row : w.rangeAt blk (off + m1 * 32) (rowV 32 Fl)
  lt1 : g < w.heap.size
  lt2 : blk < w.heap.size
theorem XR.after {g b blk off m cap m1 : Nat} {Fl : Hs} {w w' : World} (h : XR g b blk off m cap m1 Fl w) (hb : Below w.heap.size w w') : XR g b blk off m cap m1 Fl w' :=
  ⟨(hb.cell (p := ⟨g, 1 + b, none⟩) h.lt1).trans h.cell, fun j v hv => (hb.cell (p := ⟨blk, off + m1 * 32 + j, none⟩) h.lt2).trans (h.row j v hv), Nat.lt_of_lt_of_le h.lt1 hb.size, Nat.lt_of_lt_of_le h.lt2 hb.size⟩
theorem XR.of {g b blk off m cap m1 : Nat} {Fl : Hs} {w w' : World} (h : XR g b blk off m cap m1 Fl w) (hs : w.heap.size ≤ w'.heap.size) (h1 : w'.heap[g]? = w.heap[g]?) (h2 : w'.heap[blk]? = w.heap[blk]?) : XR g b blk off m cap m1 Fl w' :=
  ⟨(World.cell?_of_block (w := w) (a := ⟨g, 1 + b, none⟩) h1).trans h.cell, fun j v hv => (World.cell?_of_block (w := w) (a := ⟨blk, off + m1 * 32 + j, none⟩) h2).trans (h.row j v hv), Nat.lt_of_lt_of_le h.lt1 hs, Nat.lt_of_lt_of_le h.lt2 hs⟩
theorem Rw.read {w : World} {g : Nat} {S : Nat → Prop} {d : Nat} {M : Nat → List Hs} (h : Rw w g S d M) {b : Nat} (hb : b < 33) {m1 : Nat} {Fl : Hs} (hx : (M b)[m1]? = some Fl) :
    ∃ blk off cap, XR g b blk off (M b).length cap m1 Fl w ∧ S blk ∧ (M b).length ≤ cap := by
  obtain ⟨v, hc, hr, hS⟩ := h.row hb
  obtain ⟨ao, cap, rfl, h1, _, _, hw⟩ := hr.form
  obtain ⟨blk, off, rfl, hl, hra⟩ := hw.get hx
  exact ⟨blk, off, cap, ⟨by rw [Nat.add_comm]; exact hc, hra, h.lt, hl⟩, (hS blk rfl).1, h1⟩
set_option maxRecDepth 100000 in
set_option maxHeartbeats 8000000 in
theorem edge_any {w : World} {g d : Nat} {S : Nat → Prop} {L : List Hs} (h : Tr w g S d L) (n : Nat) (hn : n ≤ L.length) (level : Nat) (hlevel : level ≤ d) (ht : Tab w 1) :
    Calls Tryd.prog 28 #[.pointer (some ⟨g, 0, none⟩), .int .u64 n, .int .i64 level] w fun e w' => e = .returned (.agg (rowV 32 (tn (L.take n) level (n / 2 ^ level))).toArray) ∧ Below w.heap.size w w' := by
  have HT := hide ht; have HR := hide h
  have hd := h.dep
  have hfew := h.few
  have hni : (n : Int) ≤ 1000 := by omega
  have hlv : (level : Int) ≤ 32 := by omega
  clear ht h
  have R := hide (BRow.zeros32 w (g := w.heap.size) rfl)
  have B : Hid (Below w.heap.size w (w.alloc (.cells #[.int .u8 0, .int .u8 0, .int .u8 0, .int .u8 0, .int .u8 0, .int .u8 0, .int .u8 0, .int .u8 0, .int .u8 0, .int .u8 0, .int .u8 0, .int .u8 0, .int .u8 0, .int .u8 0, .int .u8 0, .int .u8 0, .int .u8 0, .int .u8 0, .int .u8 0, .int .u8 0, .int .u8 0, .int .u8 0, .int .u8 0, .int .u8 0, .int .u8 0, .int .u8 0, .int .u8 0, .int .u8 0, .int .u8 0, .int .u8 0, .int .u8 0, .int .u8 0] 28))) := bAl (bMe w)
  go_enter Tryd.func28, Tryd.ntmps28
  go_wp2_with fail
  generalize w.alloc (.cells #[.int .u8 0, .int .u8 0, .int .u8 0, .int .u8 0, .int .u8 0, .int .u8 0, .int .u8 0, .int .u8 0, .int .u8 0, .int .u8 0, .int .u8 0, .int .u8 0, .int .u8 0, .int .u8 0, .int .u8 0, .int .u8 0, .int .u8 0, .int .u8 0, .int .u8 0, .int .u8 0, .int .u8 0, .int .u8 0, .int .u8 0, .int .u8 0, .int .u8 0, .int .u8 0, .int .u8 0, .int .u8 0, .int .u8 0, .int .u8 0, .int .u8 0, .int .u8 0] 28) = w1 at *
  refine (empty_any 0 (HT.out.below B.out)).mono ?_
  rintro e w2 ⟨rfl, hb⟩
  replace R := hide (R.out.after hb rfl)
  replace B := hide (bOn B.out hb)
  clear hb
  obtain ⟨F0, hF0⟩ : ∃ F, demp 0 = F := ⟨_, rfl⟩
  rw [show lev 0 = 0 from rfl, hF0]
  have HDE := hide hF0
  have HL0 : Hid (w.heap.size < w2.heap.size) := R.out.lt
  have R2 := hide (BRow.zeros32 w2 (g := w2.heap.size) rfl)
  replace R := hide (R.out.past (.cells #[.int .u8 0, .int .u8 0, .int .u8 0, .int .u8 0, .int .u8 0, .int .u8 0, .int .u8 0, .int .u8 0, .int .u8 0, .int .u8 0, .int .u8 0, .int .u8 0, .int .u8 0, .int .u8 0, .int .u8 0, .int .u8 0, .int .u8 0, .int .u8 0, .int .u8 0, .int .u8 0, .int .u8 0, .int .u8 0, .int .u8 0, .int .u8 0, .int .u8 0, .int .u8 0, .int .u8 0, .int .u8 0, .int .u8 0, .int .u8 0, .int .u8 0, .int .u8 0] 28))
  replace B := hide (bAl (o := (.cells #[.int .u8 0, .int .u8 0, .int .u8 0, .int .u8 0, .int .u8 0, .int .u8 0, .int .u8 0, .int .u8 0, .int .u8 0, .int .u8 0, .int .u8 0, .int .u8 0, .int .u8 0, .int .u8 0, .int .u8 0, .int .u8 0, .int .u8 0, .int .u8 0, .int .u8 0, .int .u8 0, .int .u8 0, .int .u8 0, .int .u8 0, .int .u8 0, .int .u8 0, .int .u8 0, .int .u8 0, .int .u8 0, .int .u8 0, .int .u8 0, .int .u8 0, .int .u8 0] 28)) B.out)
  clear hF0
  go_wp2_with (refine wpList_store_stop rfl 28 _ _ rfl w2.heap.size 0 (rowV 32 F0) rfl rfl (R2.out.thereA F0) (info_hash32A F0) (rowV_oneA _ _) ?_)
  intro w3 hw3
  have E : Hid (BRow w3 w.heap.size 32 (fun _ => 0) ∧ BRow w3 w2.heap.size 32 F0 ∧ Below w.heap.size w w3) := by
    show _ ∧ _ ∧ _
    rw [hw3.out]
    exact ⟨R.out.off (by have := HL0.out; omega) _ _, R2.out.stored F0, setCells_below B.out (by have := HL0.out; omega) _ _⟩
  clear hw3 R R2 B
  generalize w2.heap.size = g1 at *
  have R3 := hide (BRow.zeros32 w3 (g := w3.heap.size) rfl)
  have E1 : Hid (BRow (w3.alloc (.cells #[.int .u8 0, .int .u8 0, .int .u8 0, .int .u8 0, .int .u8 0, .int .u8 0, .int .u8 0, .int .u8 0, .int .u8 0, .int .u8 0, .int .u8 0, .int .u8 0, .int .u8 0, .int .u8 0, .int .u8 0, .int .u8 0, .int .u8 0, .int .u8 0, .int .u8 0, .int .u8 0, .int .u8 0, .int .u8 0, .int .u8 0, .int .u8 0, .int .u8 0, .int .u8 0, .int .u8 0, .int .u8 0, .int .u8 0, .int .u8 0, .int .u8 0, .int .u8 0] 28)) w.heap.size 32 (fun _ => 0) ∧ BRow (w3.alloc (.cells #[.int .u8 0, .int .u8 0, .int .u8 0, .int .u8 0, .int .u8 0, .int .u8 0, .int .u8 0, .int .u8 0, .int .u8 0, .int .u8 0, .int .u8 0, .int .u8 0, .int .u8 0, .int .u8 0, .int .u8 0, .int .u8 0, .int .u8 0, .int .u8 0, .int .u8 0, .int .u8 0, .int .u8 0, .int .u8 0, .int .u8 0, .int .u8 0, .int .u8 0, .int .u8 0, .int .u8 0, .int .u8 0, .int .u8 0, .int .u8 0, .int .u8 0, .int .u8 0] 28)) g1 32 F0 ∧ Below w.heap.size w (w3.alloc (.cells #[.int .u8 0, .int .u8 0, .int .u8 0, .int .u8 0, .int .u8 0, .int .u8 0, .int .u8 0, .int .u8 0, .int .u8 0, .int .u8 0, .int .u8 0, .int .u8 0, .int .u8 0, .int .u8 0, .int .u8 0, .int .u8 0, .int .u8 0, .int .u8 0, .int .u8 0, .int .u8 0, .int .u8 0, .int .u8 0, .int .u8 0, .int .u8 0, .int .u8 0, .int .u8 0, .int .u8 0, .int .u8 0, .int .u8 0, .int .u8 0, .int .u8 0, .int .u8 0] 28)) ∧ g1 < w3.heap.size) := ⟨E.out.1.past _, E.out.2.1.past _, bAl E.out.2.2, E.out.2.1.lt⟩
  go_wp2_with (first
    | refine wpList_load_mid rfl 28 _ rfl g1 0 rfl (rowV 32 F0) _ E.out.2.1.range Tryd.underlying28 rfl (info_hash32 _) ?_
    | refine wpList_store_stop rfl 28 _ _ rfl w3.heap.size 0 (rowV 32 F0) rfl rfl (R3.out.thereA F0) (info_hash32A F0) (rowV_oneA _ _) ?_)
  intro w4 hw4
  have E4 : Hid (ED w w4 g g1 w3.heap.size S d L F0 F0) := by
    show ED _ _ _ _ _ _ _ _ _ _
    rw [hw4.out]
    have hS3 : ∀ k, S k → k < w3.heap.size := fun k hk => Nat.lt_of_lt_of_le (HR.out.box.low k hk) E.out.2.2.size
    exact ⟨E1.out.1.off (by have := E1.out.2.2.2; have := HL0.out; omega) _ _, E1.out.2.1.off (by have := E1.out.2.2.2; omega) _ _, R3.out.stored F0, (HR.out.box.below E1.out.2.2.1).putA (fun e => by have := hS3 _ e; omega) _ _, HL0.out, E1.out.2.2.2, HR.out.box.low, setCells_below E1.out.2.2.1 (by have := E1.out.2.2.2; have := HL0.out; omega) _ _⟩
  clear hw4 E E1 R3 HL0
  generalize w3.heap.size = g2 at *
  have HN0 : Hid (tn (L.take n) 0 (n / 2 ^ 0) = F0) := by
    show _ = _
    rw [tn_zero, List.getD_eq_getElem?_getD, List.getElem?_eq_none (by simp; omega), ← HDE.out]; rfl
  go_wp2
  go_loopg [14] level (fun gk t wr => ∃ b : Nat, gk + b = level ∧ t = .int .i64 b ∧ ED w wr g g1 g2 S d L (demp b) (tn (L.take n) b (n / 2 ^ b)))
  case atStart => exact ⟨0, by omega, rfl, by rw [HN0.out, HDE.out]; exact E4.out⟩
  case round =>
    clear E4 HN0 HDE
    obtain ⟨b, hb0, rfl, he⟩ := hrel
    have E := hide he; have HK := hide hb0
    clear he hb0
    by_cases hlt : b < level
    · have hbi : (b : Int) < (level : Int) := by omega
      have hb32 : (b : Int) ≤ 31 := by omega
      have hb33 : ¬ (33 : Int) ≤ (b : Int) := by omega
      obtain ⟨q, hq⟩ : ∃ q, n / 2 ^ b = q := ⟨_, rfl⟩
      have hqn : q ≤ n := by rw [← hq]; exact Nat.div_le_self _ _
      have hdq : (n : Int) / 2 ^ b = (q : Int) := by rw [← hq]; simp
      have hqi : (q : Int) ≤ 1000 := by omega
      obtain ⟨Fe, hFe⟩ : ∃ F, demp b = F := ⟨_, rfl⟩
      obtain ⟨Fh, hFh⟩ : ∃ F, tn (L.take n) b q = F := ⟨_, rfl⟩
      have hup : n / 2 ^ (b + 1) = q / 2 := by rw [Nat.pow_succ, ← Nat.div_div_eq_div_mul, hq]
      have hokL : Hoks (L.take n) := fun f hf => HR.out.ok f (List.mem_of_mem_take hf)
      have HFE : Hid (Hok Fe) := by rw [← hFe]; exact demp_ok b
      have HFH : Hid (Hok Fh) := by rw [← hFh]; exact tn_ok hokL b q
      have HDE := hide hFe
      have hmul : q * 2 ^ b ≤ n ∧ n < (q + 1) * 2 ^ b := by
        have hp : 0 < 2 ^ b := Nat.two_pow_pos b
        refine ⟨by rw [← hq]; exact Nat.div_mul_le_self n _, ?_⟩
        rw [← hq, Nat.add_mul, Nat.one_mul]
        exact Nat.lt_div_mul_add hp
      rw [hq, hFe, hFh] at E
      by_cases hev : q % 2 = 0
      · have hevi : (q : Int) % 2 = 0 := by omega
        have HN : Hid (tn (L.take n) (b + 1) (n / 2 ^ (b + 1)) = dnode Fh Fe) := by
          show _ = _
          rw [hup, tn_next, show 2 * (q / 2) = q by omega, hFh, tn_out (L.take n) b (q + 1) (by rw [List.length_take]; omega), hFe]
        clear hq hFe hFh hup hmul hokL
        go_wp2_with (first
          | refine wpList_load_mid rfl 28 _ rfl g2 0 rfl (rowV 32 Fh) _ E.out.h.range Tryd.underlying28 rfl (info_hash32 _) ?_
          | refine wpList_load_mid rfl 28 _ rfl g1 0 rfl (rowV 32 Fe) _ E.out.e.range Tryd.underlying28 rfl (info_hash32 _) ?_)
        refine (node_any Fh Fe HFH.out HFE.out (HT.out.below E.out.below)).mono ?_
        rintro e w4 ⟨rfl, hb⟩
        replace E := hide (E.out.after hb)
        clear hb
        obtain ⟨N, hN⟩ : ∃ N, dnode Fh Fe = N := ⟨_, rfl⟩
        rw [hN] at HN
        rw [hN]
        clear hN
        go_wp2_with (refine wpList_store_stop rfl 28 _ _ rfl g2 0 (rowV 32 N) rfl rfl (E.out.h.thereA N) (info_hash32A N) (rowV_oneA _ _) ?_)
        intro w5 hw5
        have E5 : Hid (ED w w5 g g1 g2 S d L Fe N) := by
          show ED _ _ _ _ _ _ _ _ _ _
          rw [hw5.out]; exact E.out.putH N
        clear hw5 E
        obtain ⟨FN, hFN⟩ : ∃ FN, dnode Fe Fe = FN := ⟨_, rfl⟩
        have HE2 : Hid (demp (b + 1) = FN) := by show _ = _; rw [demp_next, HDE.out]; exact hFN
        go_wp2_with (refine wpList_load_mid rfl 28 _ rfl g1 0 rfl (rowV 32 Fe) _ E5.out.e.range Tryd.underlying28 rfl (info_hash32 _) ?_)
        refine (node_any Fe Fe HFE.out HFE.out (HT.out.below E5.out.below)).mono ?_
        rintro e w6 ⟨rfl, hb⟩
        replace E5 := hide (E5.out.after hb)
        clear hb
        rw [hFN]
        clear hFN
        go_wp2_with (refine wpList_store_stop rfl 28 _ _ rfl g1 0 (rowV 32 FN) rfl rfl (E5.out.e.thereA FN) (info_hash32A FN) (rowV_oneA _ _) ?_)
        intro w7 hw7
        have E7 : Hid (ED w w7 g g1 g2 S d L FN N) := by
          show ED _ _ _ _ _ _ _ _ _ _
          rw [hw7.out]; exact E5.out.putE FN
        clear hw7 E5
        go_wp2
        go_roundg (level - b - 1)
        case measure => have := HK.out; omega
        case rel => exact ⟨b + 1, by omega, by go_num, by rw [HE2.out, HN.out]; exact E7.out⟩
      · have hevi : (q : Int) % 2 = 1 := by omega
        obtain ⟨m1, rfl⟩ : ∃ m1, q = m1 + 1 := ⟨q - 1, by omega⟩
        have hdq2 : (n : Int) / 2 ^ b = (m1 : Int) + 1 := by rw [hdq]; omega
        have hevj : ((m1 : Int) + 1) % 2 = 1 := by omega
        have hm1i : (m1 : Int) ≤ 1000 := by omega
        have hwm : IntKind.u64.wrap (m1 : Int) = (m1 : Int) := by rw [IntKind.wrap_u64]; omega
        clear hdq hevi hqi hev
        have hm1 : (m1 + 1) * 2 ^ b ≤ n := hmul.1
        obtain ⟨Fl, hFl⟩ : ∃ F, tn (L.take n) b m1 = F := ⟨_, rfl⟩
        have HFL : Hid (Hok Fl) := by rw [← hFl]; exact tn_ok hokL b m1
        have HN : Hid (tn (L.take n) (b + 1) (n / 2 ^ (b + 1)) = dnode Fl Fh) := by
          show _ = _
          rw [hup, tn_next, show 2 * ((m1 + 1) / 2) = m1 by omega, hFl, hFh]
        have hrow : (lv L b)[m1]? = some Fl := by
          have hp : 0 < 2 ^ b := Nat.two_pow_pos b
          rw [lv_get L b m1 ((Nat.le_div_iff_mul_le hp).2 (show (m1 + 1) * 2 ^ b ≤ L.length by omega)), ← hFl, tn_take L n b m1 hm1]
        obtain ⟨blk, off, cap, hx, hSb, hcp⟩ := E.out.box.read (by omega) hrow
        have hml : m1 < (lv L b).length := (List.getElem?_eq_some_iff.1 hrow).1
        have hmi : (m1 : Int) < ((lv L b).length : Int) := by omega
        have hmi2 : ¬ ((lv L b).length : Int) ≤ (m1 : Int) := by omega
        have X := hide (hx.after (bMe wr).drew)
        replace E := hide (E.out.after (bMe wr).drew)
        have HSB := hide hSb
        have HMS := hide (fun (F : Hs) (w' : World) (hh : ED w w' g g1 g2 S d L Fe Fh) (xx : XR g b blk off (lv L b).length cap m1 Fl w') => (xx.of (w' := w'.setCells g2 0 (rowV 32 F)) (by rw [setCells_size]; exact Nat.le_refl _) (setCells_block _ _ _ _ _ (by rintro rfl; have := hh.low _ hh.box.mine; have := hh.lo1; have := hh.lo2; omega)) (setCells_block _ _ _ _ _ (by rintro rfl; have := hh.low _ HSB.out; have := hh.lo1; have := hh.lo2; omega))))
        clear hq hFe hFh hup hmul hokL hFl hrow hx hSb hm1 HSB hml
        generalize (lv L b).length = m at *
        go_wp2_with fail
        refine wp_region_held_drew (S := XR g b blk off m cap m1 Fl) (by kernel_rfl) X.out (fun _ => ?_)
        refine tk0 (v := .pointer (some ⟨g, 0, none⟩)) (by kernel_rfl) (by kernel_rfl) (by kernel_rfl) (fun _ _ _ h => h) X.out (Or.inl ⟨by rfl, fun w hw => by go_simp; try (with_reducible rfl)⟩) ?_
        simp only [Act.put, List.setIfInBounds_toArray, List.set_cons_zero, List.set_cons_succ]
        refine tk1 (v := .int .i64 (b : Int)) (by kernel_rfl) (by kernel_rfl) (by kernel_rfl) (fun _ _ _ h => h) X.out (Or.inl ⟨by rfl, fun w hw => by go_simp; try (with_reducible rfl)⟩) ?_
        simp only [Act.put, List.setIfInBounds_toArray, List.set_cons_zero, List.set_cons_succ]
        refine tk2 (v := .pointer (some ⟨g, 0, none⟩)) (by kernel_rfl) (by kernel_rfl) (by kernel_rfl) (fun _ _ _ h => h) X.out (Or.inl ⟨by rfl, fun w hw => by go_simp; try (with_reducible rfl)⟩) ?_
        simp only [Act.put, List.setIfInBounds_toArray, List.set_cons_zero, List.set_cons_succ]
        refine tk3 (v := .pointer (some ⟨g, 1, none⟩)) (by kernel_rfl) (by kernel_rfl) (by kernel_rfl) (fun _ _ _ h => h) X.out (Or.inl ⟨by rfl, fun w hw => by go_simp; try (with_reducible rfl)⟩) ?_
        simp only [Act.put, List.setIfInBounds_toArray, List.set_cons_zero, List.set_cons_succ]
        refine tk4 (v := .pointer (some ⟨g, 1 + b, none⟩)) (by kernel_rfl) (by kernel_rfl) (by kernel_rfl) (fun _ _ _ h => h) X.out (Or.inl ⟨by rfl, fun w hw => by go_simp; try (with_reducible rfl)⟩) ?_
        simp only [Act.put, List.setIfInBounds_toArray, List.set_cons_zero, List.set_cons_succ]
        refine tk5 (v := .slice (some ⟨blk, off, none⟩) m cap) (by kernel_rfl) (by kernel_rfl) (by kernel_rfl) (fun _ _ _ h => h) X.out (Or.inl ⟨by rfl, fun w hw => by have c := hw.cell; go_simp; try (with_reducible rfl)⟩) ?_
        simp only [Act.put, List.setIfInBounds_toArray, List.set_cons_zero, List.set_cons_succ]
        refine tk6 (v := .int .u64 ((m1 : Int) + 1)) (by kernel_rfl) (by kernel_rfl) (by kernel_rfl) (fun _ _ _ h => h) X.out (Or.inl ⟨by rfl, fun w hw => by go_simp; try (with_reducible rfl)⟩) ?_
        simp only [Act.put, List.setIfInBounds_toArray, List.set_cons_zero, List.set_cons_succ]
        refine tk7 (v := .int .u64 (m1 : Int)) (by kernel_rfl) (by kernel_rfl) (by kernel_rfl) (fun _ _ _ h => h) X.out (Or.inl ⟨by rfl, fun w hw => by go_simp; try (with_reducible rfl)⟩) ?_
        simp only [Act.put, List.setIfInBounds_toArray, List.set_cons_zero, List.set_cons_succ]
        refine tk8 (v := .pointer (some ⟨blk, off + m1 * 32, none⟩)) (by kernel_rfl) (by kernel_rfl) (by kernel_rfl) (fun _ _ _ h => h) X.out (Or.inl ⟨by rfl, fun w hw => by go_simp; try (with_reducible rfl)⟩) ?_
        simp only [Act.put, List.setIfInBounds_toArray, List.set_cons_zero, List.set_cons_succ]
        refine tk9 (by kernel_rfl) (by kernel_rfl) (by kernel_rfl) (fun _ _ _ h => h) X.out (yieldsIf_load_mid (by rfl) _ _ rfl blk (off + m1 * 32) rfl (rowV 32 Fl) _ (fun _ hw => hw.row) Tryd.underlying28 rfl (info_hash32 _)) ?_
        simp only [Act.put, List.setIfInBounds_toArray, List.set_cons_zero, List.set_cons_succ]
        refine wpAnyH_ready (rs := [10]) (by kernel_rfl) (by simp) ?_
        refine rd10 (fun K hK => ?_) AllReadyH.nil
        rw [if_pos (by rfl)]
        refine wp_load_mid 28 _ rfl g2 0 rfl (rowV 32 Fh) _ E.out.h.range Tryd.underlying28 rfl (info_hash32 _) ?_
        refine hK.out _ _ X.out (fun _ => ?_)
        clear hK K
        simp only [Act.put, List.setIfInBounds_toArray, List.set_cons_zero, List.set_cons_succ]
        refine wpAnyH_ready (rs := [11]) (by kernel_rfl) (by simp) ?_
        refine rd11 (fun K hK => ?_) AllReadyH.nil
        go_simp
        refine (node_any Fl Fh HFL.out HFH.out (HT.out.below E.out.below)).mono ?_
        rintro e w4 ⟨rfl, hb⟩
        simp only []
        replace X := hide (X.out.after hb)
        replace E := hide (E.out.after hb)
        clear hb
        refine hK.out _ _ X.out (fun _ => ?_)
        clear hK K
        obtain ⟨N, hN⟩ : ∃ N, dnode Fl Fh = N := ⟨_, rfl⟩
        rw [hN] at HN
        rw [hN]
        clear hN
        refine wpAnyH_ready (rs := [12]) (by kernel_rfl) (by simp) ?_
        refine rd12 (fun K hK => ?_) AllReadyH.nil
        rw [if_pos (by rfl)]
        refine wp_store_mid _ _ _ rfl g2 0 (rowV 32 N).toArray rfl rfl (E.out.h.thereA N) (info_hash32A _) (rowV_oneA _ _) ?_
        refine hK.out _ _ (HMS.out N w4 E.out X.out) (fun _ => ?_)
        clear hK K
        refine wpAnyH_done (by kernel_rfl) ?_ _
        have E5 : Hid (ED w (w4.setCells g2 0 (rowV 32 N)) g g1 g2 S d L Fe N) := E.out.putH N
        simp only [Act.put]
        generalize w4.setCells g2 0 (rowV 32 N) = w5 at *
        clear E X
        obtain ⟨FN, hFN⟩ : ∃ FN, dnode Fe Fe = FN := ⟨_, rfl⟩
        have HE2 : Hid (demp (b + 1) = FN) := by show _ = _; rw [demp_next, HDE.out]; exact hFN
        go_wp2_with (refine wpList_load_mid rfl 28 _ rfl g1 0 rfl (rowV 32 Fe) _ E5.out.e.range Tryd.underlying28 rfl (info_hash32 _) ?_)
        refine (node_any Fe Fe HFE.out HFE.out (HT.out.below E5.out.below)).mono ?_
        rintro e w6 ⟨rfl, hb⟩
        replace E5 := hide (E5.out.after hb)
        clear hb
        rw [hFN]
        clear hFN
        go_wp2_with (refine wpList_store_stop rfl 28 _ _ rfl g1 0 (rowV 32 FN) rfl rfl (E5.out.e.thereA FN) (info_hash32A FN) (rowV_oneA _ _) ?_)
        intro w7 hw7
        have E7 : Hid (ED w w7 g g1 g2 S d L FN N) := by
          show ED _ _ _ _ _ _ _ _ _ _
          rw [hw7.out]; exact E5.out.putE FN
        clear hw7 E5
        go_wp2
        go_roundg (level - b - 1)
        case measure => have := HK.out; omega
        case rel => exact ⟨b + 1, by omega, by go_num, by rw [HE2.out, HN.out]; exact E7.out⟩
    · obtain rfl : b = level := by have := HK.out; omega
      obtain ⟨F, hF⟩ : ∃ F, tn (L.take n) b (n / 2 ^ b) = F := ⟨_, rfl⟩
      have HF := hide hF
      rw [hF] at E
      clear hF
      go_wp2_with (first
        | refine wpList_load_mid rfl 28 _ rfl g2 0 rfl (rowV 32 F) _ E.out.h.range Tryd.underlying28 rfl (info_hash32 _) ?_
        | refine wpList_store_mid rfl 28 _ _ rfl w.heap.size 0 (rowV 32 F).toArray rfl rfl (E.out.res.thereA _) (info_hash32A _) (rowV_oneA _ _) ?_)
      refine bodyPost_ret (v := .agg (rowV 32 F).toArray) ?_ rfl ⟨by rw [HF.out], setCells_below E.out.below (Nat.le_refl _) _ _⟩
      have hlv := run_loadVar_mid (P := Tryd.prog) _ _ _ _ _ _ (E.out.res.stored F).range Tryd.underlying28 rfl (info_hash32 _)
      exact results_one Tryd.results28 rfl hlv
end Go.Proofs.YtjkhboejhcbdpaaDoor

/- The contracts of a tree's Node and Root over this translation (written by gen-treenode.py). -/
namespace Go.Proofs.YtjkhboejhcbdpaaDoor
open Go.RowKit Go.Lib
attribute [local go_sem] setCell_drewN alloc_drewN

theorem lev_nat (k : Nat) (h : k ≤ 32) : lev (k : Int) = k := by unfold lev; rw [if_neg (by omega), if_neg (by omega)]; omega
set_option maxRecDepth 100000 in
set_option maxHeartbeats 4000000 in
theorem node_nil {w : World} (n level i : Int) :
    Calls Tryd.prog 15 #[.pointer none, .int .u64 n, .int .i64 level, .int .u64 i] w fun e w' => e = .returned (.tuple #[.agg (rowV 32 hz).toArray, .bool false]) ∧ Below w.heap.size w w' := by
  have R := hide (BRow.zeros32 w (g := w.heap.size) rfl)
  have B : Hid (Below w.heap.size w (w.alloc (.cells #[.int .u8 0, .int .u8 0, .int .u8 0, .int .u8 0, .int .u8 0, .int .u8 0, .int .u8 0, .int .u8 0, .int .u8 0, .int .u8 0, .int .u8 0, .int .u8 0, .int .u8 0, .int .u8 0, .int .u8 0, .int .u8 0, .int .u8 0, .int .u8 0, .int .u8 0, .int .u8 0, .int .u8 0, .int .u8 0, .int .u8 0, .int .u8 0, .int .u8 0, .int .u8 0, .int .u8 0, .int .u8 0, .int .u8 0, .int .u8 0, .int .u8 0, .int .u8 0] 28))) := bAl (bMe w)
  go_enter Tryd.func15, Tryd.ntmps15
  go_wp2_with (refine wpList_store_mid rfl 28 _ _ rfl w.heap.size 0 (rowV 32 hz).toArray rfl rfl (R.out.thereA _) (info_hash32A _) (rowV_oneA _ _) ?_)
  refine bodyPost_ret (v := .tuple #[.agg (rowV 32 hz).toArray, .bool false]) ?_ rfl ⟨rfl, setCells_below B.out (Nat.le_refl _) _ _⟩
  have hlv := run_loadVar_mid (P := Tryd.prog) _ _ _ _ _ _ (R.out.stored hz).range Tryd.underlying28 rfl (info_hash32 _)
  exact results_two Tryd.results15 rfl rfl hlv
set_option maxRecDepth 100000 in
set_option maxHeartbeats 8000000 in
theorem node_no {w : World} {g d : Nat} {S : Nat → Prop} {L : List Hs} (h : Tr w g S d L) (n level i : Int) (hno : (L.length : Int) < n ∨ level < 0 ∨ (d : Int) < level ∨ ∃ k : Nat, level = k ∧ k ≤ d ∧ ((2 ^ (d - k) : Nat) : Int) ≤ i) :
    Calls Tryd.prog 15 #[.pointer (some ⟨g, 0, none⟩), .int .u64 n, .int .i64 level, .int .u64 i] w fun e w' => e = .returned (.tuple #[.agg (rowV 32 hz).toArray, .bool false]) ∧ Below w.heap.size w w' := by
  have R := hide (BRow.zeros32 w (g := w.heap.size) rfl)
  have B : Hid (Below w.heap.size w (w.alloc (.cells #[.int .u8 0, .int .u8 0, .int .u8 0, .int .u8 0, .int .u8 0, .int .u8 0, .int .u8 0, .int .u8 0, .int .u8 0, .int .u8 0, .int .u8 0, .int .u8 0, .int .u8 0, .int .u8 0, .int .u8 0, .int .u8 0, .int .u8 0, .int .u8 0, .int .u8 0, .int .u8 0, .int .u8 0, .int .u8 0, .int .u8 0, .int .u8 0, .int .u8 0, .int .u8 0, .int .u8 0, .int .u8 0, .int .u8 0, .int .u8 0, .int .u8 0, .int .u8 0] 28))) := bAl (bMe w)
  have H := hide (h.below B.out)
  have HD := hide h.dep
  have hfew := h.few
  clear h
  have c0 := H.out.box.c0
  obtain ⟨lim, hlim⟩ : ∃ lim : Int, (L.length : Int) = lim := ⟨_, rfl⟩
  by_cases h1 : (L.length : Int) < n
  · clear hno
    have HK : Hid (True) := trivial
    go_enter Tryd.func15, Tryd.ntmps15
    go_wp2_with (first
    | (go_at_call 18; refine (len_any H.out.box (by rw [lv_zero]; omega)).mono ?_; rintro e w' ⟨rfl, rfl⟩; rw [lv_zero])
    | refine wpList_store_mid rfl 28 _ _ rfl w.heap.size 0 (rowV 32 hz).toArray rfl rfl (R.out.thereA _) (info_hash32A _) (rowV_oneA _ _) ?_)
    refine bodyPost_ret (v := .tuple #[.agg (rowV 32 hz).toArray, .bool false]) ?_ rfl ⟨rfl, setCells_below B.out (Nat.le_refl _) _ _⟩
    have hlv := run_loadVar_mid (P := Tryd.prog) _ _ _ _ _ _ (R.out.stored hz).range Tryd.underlying28 rfl (info_hash32 _)
    exact results_two Tryd.results15 rfl rfl hlv
  by_cases h2 : level < 0
  · clear hno
    go_enter Tryd.func15, Tryd.ntmps15
    go_wp2_with (first
    | (go_at_call 18; refine (len_any H.out.box (by rw [lv_zero]; omega)).mono ?_; rintro e w' ⟨rfl, rfl⟩; rw [lv_zero])
    | refine wpList_store_mid rfl 28 _ _ rfl w.heap.size 0 (rowV 32 hz).toArray rfl rfl (R.out.thereA _) (info_hash32A _) (rowV_oneA _ _) ?_)
    refine bodyPost_ret (v := .tuple #[.agg (rowV 32 hz).toArray, .bool false]) ?_ rfl ⟨rfl, setCells_below B.out (Nat.le_refl _) _ _⟩
    have hlv := run_loadVar_mid (P := Tryd.prog) _ _ _ _ _ _ (R.out.stored hz).range Tryd.underlying28 rfl (info_hash32 _)
    exact results_two Tryd.results15 rfl rfl hlv
  by_cases h3 : (d : Int) < level
  · clear hno
    go_enter Tryd.func15, Tryd.ntmps15
    go_wp2_with (first
    | (go_at_call 18; refine (len_any H.out.box (by rw [lv_zero]; omega)).mono ?_; rintro e w' ⟨rfl, rfl⟩; rw [lv_zero])
    | refine wpList_store_mid rfl 28 _ _ rfl w.heap.size 0 (rowV 32 hz).toArray rfl rfl (R.out.thereA _) (info_hash32A _) (rowV_oneA _ _) ?_)
    refine bodyPost_ret (v := .tuple #[.agg (rowV 32 hz).toArray, .bool false]) ?_ rfl ⟨rfl, setCells_below B.out (Nat.le_refl _) _ _⟩
    have hlv := run_loadVar_mid (P := Tryd.prog) _ _ _ _ _ _ (R.out.stored hz).range Tryd.underlying28 rfl (info_hash32 _)
    exact results_two Tryd.results15 rfl rfl hlv
  obtain ⟨k, rfl, hk, hi⟩ : ∃ k : Nat, level = k ∧ k ≤ d ∧ ((2 ^ (d - k) : Nat) : Int) ≤ i := by
    rcases hno with h | h | h | h
    · exact absurd h h1
    · exact absurd h h2
    · exact absurd h h3
    · exact h
  obtain ⟨p, hp⟩ : ∃ p : Int, ((2 ^ (d - k) : Nat) : Int) = p := ⟨_, rfl⟩
  rw [hp] at hi
  have HK := hide hk; have HP := hide hp
  clear hk hp
  go_enter Tryd.func15, Tryd.ntmps15
  go_wp2_with (first
    | (go_at_call 18; refine (len_any H.out.box (by rw [lv_zero]; omega)).mono ?_; rintro e w' ⟨rfl, rfl⟩; rw [lv_zero])
    | (go_at_call 26; refine (room_any H.out.box HD.out _ HK.out).mono ?_; rintro e w' ⟨rfl, rfl⟩; rw [HP.out])
    | refine wpList_store_mid rfl 28 _ _ rfl w.heap.size 0 (rowV 32 hz).toArray rfl rfl (R.out.thereA _) (info_hash32A _) (rowV_oneA _ _) ?_)
  refine bodyPost_ret (v := .tuple #[.agg (rowV 32 hz).toArray, .bool false]) ?_ rfl ⟨rfl, setCells_below B.out (Nat.le_refl _) _ _⟩
  have hlv := run_loadVar_mid (P := Tryd.prog) _ _ _ _ _ _ (R.out.stored hz).range Tryd.underlying28 rfl (info_hash32 _)
  exact results_two Tryd.results15 rfl rfl hlv
set_option maxRecDepth 100000 in
set_option maxHeartbeats 8000000 in
theorem node_yes {w : World} {g d : Nat} {S : Nat → Prop} {L : List Hs} (h : Tr w g S d L) (n level i : Nat) (hn : n ≤ L.length) (hl : level ≤ d) (hi : i < 2 ^ (d - level)) (ht : Tab w 1) :
    Calls Tryd.prog 15 #[.pointer (some ⟨g, 0, none⟩), .int .u64 n, .int .i64 level, .int .u64 i] w fun e w' => e = .returned (.tuple #[.agg (rowV 32 (tn (L.take n) level i)).toArray, .bool true]) ∧ Below w.heap.size w w' := by
  have R := hide (BRow.zeros32 w (g := w.heap.size) rfl)
  have B : Hid (Below w.heap.size w (w.alloc (.cells #[.int .u8 0, .int .u8 0, .int .u8 0, .int .u8 0, .int .u8 0, .int .u8 0, .int .u8 0, .int .u8 0, .int .u8 0, .int .u8 0, .int .u8 0, .int .u8 0, .int .u8 0, .int .u8 0, .int .u8 0, .int .u8 0, .int .u8 0, .int .u8 0, .int .u8 0, .int .u8 0, .int .u8 0, .int .u8 0, .int .u8 0, .int .u8 0, .int .u8 0, .int .u8 0, .int .u8 0, .int .u8 0, .int .u8 0, .int .u8 0, .int .u8 0, .int .u8 0] 28))) := bAl (bMe w)
  have H := hide (h.below B.out)
  have HT := hide (ht.below B.out)
  have HD := hide h.dep
  have hfew := h.few
  have hd := h.dep
  clear h ht
  have c0 := H.out.box.c0
  obtain ⟨p, hp⟩ : ∃ p : Int, ((2 ^ (d - level) : Nat) : Int) = p := ⟨_, rfl⟩
  have hip : (i : Int) < p := by omega
  have HK := hide hl; have HP := hide hp
  have hni : (n : Int) ≤ (L.length : Int) := by omega
  have hli : (level : Int) ≤ (d : Int) := by omega
  have hl32 : (level : Int) ≤ 32 := by omega
  have hl33 : (level : Int) < 33 := by omega
  have hfi : (L.length : Int) ≤ 1000 := by omega
  obtain ⟨q, hq⟩ : ∃ q, n / 2 ^ level = q := ⟨_, rfl⟩
  have hdq : (n : Int) / 2 ^ level = (q : Int) := by rw [← hq]; simp
  have hq2 : q * 2 ^ level ≤ n ∧ n < (q + 1) * 2 ^ level := by
    have hp : 0 < 2 ^ level := Nat.two_pow_pos level
    refine ⟨by rw [← hq]; exact Nat.div_mul_le_self n _, ?_⟩
    rw [← hq, Nat.add_mul, Nat.one_mul]
    exact Nat.lt_div_mul_add hp
  have hlo : Hid (w.heap.size < (w.alloc (.cells #[.int .u8 0, .int .u8 0, .int .u8 0, .int .u8 0, .int .u8 0, .int .u8 0, .int .u8 0, .int .u8 0, .int .u8 0, .int .u8 0, .int .u8 0, .int .u8 0, .int .u8 0, .int .u8 0, .int .u8 0, .int .u8 0, .int .u8 0, .int .u8 0, .int .u8 0, .int .u8 0, .int .u8 0, .int .u8 0, .int .u8 0, .int .u8 0, .int .u8 0, .int .u8 0, .int .u8 0, .int .u8 0, .int .u8 0, .int .u8 0, .int .u8 0, .int .u8 0] 28)).heap.size) := by show _ < _; simp
  clear hp
  obtain ⟨N, hN⟩ : ∃ N, tn (L.take n) level i = N := ⟨_, rfl⟩
  have HN := hide hN
  by_cases hlt : i < q
  · have hiq : (i : Int) < (q : Int) := by omega
    have hm : (i + 1) * 2 ^ level ≤ n := Nat.le_trans (Nat.mul_le_mul_right _ hlt) hq2.1
    have hrow : (lv L level)[i]? = some N := by
      have hp : 0 < 2 ^ level := Nat.two_pow_pos level
      rw [lv_get L level i ((Nat.le_div_iff_mul_le hp).2 (show (i + 1) * 2 ^ level ≤ L.length by omega)), ← hN, tn_take L n level i hm]
    obtain ⟨blk, off, cap, hx, _, hcp⟩ := H.out.box.read (by omega) hrow
    have hml : i < (lv L level).length := (List.getElem?_eq_some_iff.1 hrow).1
    have hmi : (i : Int) < ((lv L level).length : Int) := by omega
    have hc1 := hx.cell
    have HX := hide hx.row
    clear hq hq2 hN hm hrow hx hml hi hl hn hlt
    go_enter Tryd.func15, Tryd.ntmps15
    generalize (lv L level).length = m at *
    go_wp2_with (first
      | (go_at_call 18; refine (len_any H.out.box (by rw [lv_zero]; omega)).mono ?_; rintro e w' ⟨rfl, rfl⟩; rw [lv_zero])
      | (go_at_call 26; refine (room_any H.out.box HD.out _ HK.out).mono ?_; rintro e w' ⟨rfl, rfl⟩; rw [HP.out])
      | refine wpList_load_mid rfl 28 _ rfl blk (off + i * 32) rfl (rowV 32 N) _ HX.out Tryd.underlying28 rfl (info_hash32 _) ?_
      | refine wpList_store_mid rfl 28 _ _ rfl w.heap.size 0 (rowV 32 N).toArray rfl rfl (R.out.thereA _) (info_hash32A _) (rowV_oneA _ _) ?_)
    refine bodyPost_ret (v := .tuple #[.agg (rowV 32 N).toArray, .bool true]) ?_ rfl ⟨by rw [HN.out], setCells_below B.out (Nat.le_refl _) _ _⟩
    have hlv := run_loadVar_mid (P := Tryd.prog) _ _ _ _ _ _ (R.out.stored N).range Tryd.underlying28 rfl (info_hash32 _)
    exact results_two Tryd.results15 rfl rfl hlv
  by_cases hgt : q < i
  · have hiq : (q : Int) < (i : Int) := by omega
    have hiq2 : ¬ (i : Int) < (q : Int) := by omega
    have hm : (q + 1) * 2 ^ level ≤ i * 2 ^ level := Nat.mul_le_mul_right _ hgt
    have HE : Hid (demp level = N) := by
      show _ = _
      rw [← hN, tn_out (L.take n) level i (by rw [List.length_take]; omega)]
    clear hq hq2 hN hm hi hl hn hlt hgt
    go_enter Tryd.func15, Tryd.ntmps15
    go_wp2_with (first
      | (go_at_call 18; refine (len_any H.out.box (by rw [lv_zero]; omega)).mono ?_; rintro e w' ⟨rfl, rfl⟩; rw [lv_zero])
      | (go_at_call 26; refine (room_any H.out.box HD.out _ HK.out).mono ?_; rintro e w' ⟨rfl, rfl⟩; rw [HP.out]))
    generalize w.alloc (.cells #[.int .u8 0, .int .u8 0, .int .u8 0, .int .u8 0, .int .u8 0, .int .u8 0, .int .u8 0, .int .u8 0, .int .u8 0, .int .u8 0, .int .u8 0, .int .u8 0, .int .u8 0, .int .u8 0, .int .u8 0, .int .u8 0, .int .u8 0, .int .u8 0, .int .u8 0, .int .u8 0, .int .u8 0, .int .u8 0, .int .u8 0, .int .u8 0, .int .u8 0, .int .u8 0, .int .u8 0, .int .u8 0, .int .u8 0, .int .u8 0, .int .u8 0, .int .u8 0] 28) = w1 at *
    refine (empty_any (level : Int) HT.out).mono ?_
    rintro e w2 ⟨rfl, hb⟩
    rw [lev_nat level (by omega), HE.out]
    replace R := hide (R.out.after hb rfl)
    replace B := hide (bOn B.out hb)
    clear hb
    go_wp2_with (refine wpList_store_mid rfl 28 _ _ rfl w.heap.size 0 (rowV 32 N).toArray rfl rfl (R.out.thereA _) (info_hash32A _) (rowV_oneA _ _) ?_)
    refine bodyPost_ret (v := .tuple #[.agg (rowV 32 N).toArray, .bool true]) ?_ rfl ⟨by rw [HN.out], setCells_below B.out (Nat.le_refl _) _ _⟩
    have hlv := run_loadVar_mid (P := Tryd.prog) _ _ _ _ _ _ (R.out.stored N).range Tryd.underlying28 rfl (info_hash32 _)
    exact results_two Tryd.results15 rfl rfl hlv
  · obtain rfl : i = q := by omega
    have HE : Hid (tn (L.take n) level (n / 2 ^ level) = N) := by show _ = _; rw [hq]; exact hN
    have HNL := hide hn
    clear hq hq2 hN hi hl hn hlt hgt
    go_enter Tryd.func15, Tryd.ntmps15
    go_wp2_with (first
      | (go_at_call 18; refine (len_any H.out.box (by rw [lv_zero]; omega)).mono ?_; rintro e w' ⟨rfl, rfl⟩; rw [lv_zero])
      | (go_at_call 26; refine (room_any H.out.box HD.out _ HK.out).mono ?_; rintro e w' ⟨rfl, rfl⟩; rw [HP.out]))
    generalize w.alloc (.cells #[.int .u8 0, .int .u8 0, .int .u8 0, .int .u8 0, .int .u8 0, .int .u8 0, .int .u8 0, .int .u8 0, .int .u8 0, .int .u8 0, .int .u8 0, .int .u8 0, .int .u8 0, .int .u8 0, .int .u8 0, .int .u8 0, .int .u8 0, .int .u8 0, .int .u8 0, .int .u8 0, .int .u8 0, .int .u8 0, .int .u8 0, .int .u8 0, .int .u8 0, .int .u8 0, .int .u8 0, .int .u8 0, .int .u8 0, .int .u8 0, .int .u8 0, .int .u8 0] 28) = w1 at *
    refine (edge_any H.out n HNL.out level HK.out HT.out).mono ?_
    rintro e w2 ⟨rfl, hb⟩
    rw [HE.out]
    replace R := hide (R.out.after hb rfl)
    replace B := hide (bOn B.out hb)
    clear hb
    go_wp2_with (refine wpList_store_mid rfl 28 _ _ rfl w.heap.size 0 (rowV 32 N).toArray rfl rfl (R.out.thereA _) (info_hash32A _) (rowV_oneA _ _) ?_)
    refine bodyPost_ret (v := .tuple #[.agg (rowV 32 N).toArray, .bool true]) ?_ rfl ⟨by rw [HN.out], setCells_below B.out (Nat.le_refl _) _ _⟩
    have hlv := run_loadVar_mid (P := Tryd.prog) _ _ _ _ _ _ (R.out.stored N).range Tryd.underlying28 rfl (info_hash32 _)
    exact results_two Tryd.results15 rfl rfl hlv
end Go.Proofs.YtjkhboejhcbdpaaDoor

/- The contracts of proof.Make over this translation (written by gen-proofmake.py). -/
namespace Go.Proofs.YtjkhboejhcbdpaaDoor
open Go.RowKit Go.Lib
attribute [local go_sem] setCell_drewN alloc_drewN

theorem zeroPf (w : World) : (zeroValue 29).run Tryd.prog w = .ok (.agg (rowV 1024 (pc pz)).toArray) w := by rw [pz_row]; exact zero1024 w
/-- The place beside. -/
def sib (x : Nat) : Nat := if x % 2 = 0 then x + 1 else x - 1
theorem sib_lt {x m : Nat} (h : x < 2 * m) : sib x < 2 * m := by unfold sib; split <;> omega
theorem xor_sib (x : Nat) (h : x < 18446744073709551616) : bits .xor .u64 (x : Int) 1 = ((sib x : Nat) : Int) := by
  have h1 := u64_xor_nat x 1 h (by omega)
  have h2 : x ^^^ 1 = sib x := by
    have a := Nat.xor_div_two (a := x) (b := 1)
    have b := Nat.xor_mod_two_eq_one (a := x) (b := 1)
    rw [show (1 : Nat) / 2 = 0 from rfl, Nat.xor_zero] at a
    rw [show (1 : Nat) % 2 = 1 from rfl] at b
    unfold sib
    by_cases h : x % 2 = 1
    · have : ¬ (x ^^^ 1) % 2 = 1 := fun e => (b.1 e) ⟨fun _ => rfl, fun _ => h⟩
      rw [if_neg (by omega)]; omega
    · have : (x ^^^ 1) % 2 = 1 := b.2 fun e => h (e.2 rfl)
      rw [if_pos (by omega)]; omega
  rw [h2] at h1
  exact h1
/-- The proof of a place, level by level. -/
def mp (L : List Hs) (d i : Nat) : Pf := fun k => if k < d then tn L k (sib (i / 2 ^ k)) else hz
theorem mp_zero (L : List Hs) (i : Nat) : mp L 0 i = pz := by funext k; simp [mp, pz]
theorem mp_next (L : List Hs) (d i : Nat) : mp L (d + 1) i = updP (mp L d i) d (tn L d (sib (i / 2 ^ d))) := by
  funext k
  unfold mp updP
  by_cases e : k = d
  · subst e; rw [if_pos (by omega), if_pos rfl]
  · rw [if_neg e]
    by_cases e2 : k < d
    · simp only []; rw [if_pos (by omega), if_pos e2]
    · simp only []; rw [if_neg (by omega), if_neg e2]
theorem mp_ok {L : List Hs} (h : Hoks L) (d i : Nat) : Pok (mp L d i) := by
  intro k; unfold mp; split
  · exact tn_ok h _ _
  · exact pz_ok k
set_option maxRecDepth 100000 in
set_option maxHeartbeats 4000000 in
theorem make_nil {w : World} (n i : Int) :
    Calls Tryd.prog 9 #[.pointer none, .int .u64 n, .int .u64 i] w fun e w' => e = .returned (.tuple #[.agg (rowV 1024 (pc pz)).toArray, .int .i64 1]) ∧ Below w.heap.size w w' := by
  have E : Hid (Bxs w (w.alloc (.cells (rowV 1024 (pc pz)).toArray 29)) [(w.heap.size, 1024, pc pz)]) := (Bxs.none w).add rfl (BRow.box w 1024 _ _ rfl)
  have hzp := fun w => zeroPf w
  go_enter Tryd.func9, Tryd.ntmps9
  go_wp2_with (first
    | refine wpList_store_mid rfl 29 _ _ rfl (w.heap.size) 0 (rowV 1024 (pc pz)).toArray rfl rfl ((E.out.get 0 rfl).thereA _) (info_pfA _) (rowV_oneA _ _) ?_)
  have EE := hide (E.out.put 0 rfl (pc pz))
  refine bodyPost_ret (v := .tuple #[.agg (rowV 1024 (pc pz)).toArray, .int .i64 1]) ?_ rfl ⟨rfl, EE.out.below⟩
  have hlv := run_loadVar_mid (P := Tryd.prog) _ _ _ _ _ _ (EE.out.get 0 rfl).range Tryd.underlying29 rfl (info_pf _)
  exact results_two Tryd.results9 rfl rfl hlv
set_option maxRecDepth 100000 in
set_option maxHeartbeats 8000000 in
theorem make_arg {w : World} {g d : Nat} {S : Nat → Prop} {L : List Hs} (h : Tr w g S d L) (n i : Int) (hn : (L.length : Int) < n) :
    Calls Tryd.prog 9 #[.pointer (some ⟨g, 0, none⟩), .int .u64 n, .int .u64 i] w fun e w' => e = .returned (.tuple #[.agg (rowV 1024 (pc pz)).toArray, .int .i64 1]) ∧ Below w.heap.size w w' := by
  have E : Hid (Bxs w (w.alloc (.cells (rowV 1024 (pc pz)).toArray 29)) [(w.heap.size, 1024, pc pz)]) := (Bxs.none w).add rfl (BRow.box w 1024 _ _ rfl)
  have HTR := hide (h.below E.out.below)
  have hfew := h.few
  have hzp := fun w => zeroPf w
  clear h
  go_enter Tryd.func9, Tryd.ntmps9
  go_wp2_with (first
    | (go_at_call 18; refine (len_any HTR.out.box (by rw [lv_zero]; omega)).mono ?_; rintro e w' ⟨rfl, rfl⟩; rw [lv_zero])
    | refine wpList_store_mid rfl 29 _ _ rfl (w.heap.size) 0 (rowV 1024 (pc pz)).toArray rfl rfl ((E.out.get 0 rfl).thereA _) (info_pfA _) (rowV_oneA _ _) ?_)
  have EE := hide (E.out.put 0 rfl (pc pz))
  refine bodyPost_ret (v := .tuple #[.agg (rowV 1024 (pc pz)).toArray, .int .i64 1]) ?_ rfl ⟨rfl, EE.out.below⟩
  have hlv := run_loadVar_mid (P := Tryd.prog) _ _ _ _ _ _ (EE.out.get 0 rfl).range Tryd.underlying29 rfl (info_pf _)
  exact results_two Tryd.results9 rfl rfl hlv
set_option maxRecDepth 100000 in
set_option maxHeartbeats 8000000 in
theorem make_none {w : World} {g d : Nat} {S : Nat → Prop} {L : List Hs} (h : Tr w g S d L) (n i : Int) (hn : n ≤ (L.length : Int)) (hi : n ≤ i) :
    Calls Tryd.prog 9 #[.pointer (some ⟨g, 0, none⟩), .int .u64 n, .int .u64 i] w fun e w' => e = .returned (.tuple #[.agg (rowV 1024 (pc pz)).toArray, .int .i64 10]) ∧ Below w.heap.size w w' := by
  have E : Hid (Bxs w (w.alloc (.cells (rowV 1024 (pc pz)).toArray 29)) [(w.heap.size, 1024, pc pz)]) := (Bxs.none w).add rfl (BRow.box w 1024 _ _ rfl)
  have HTR := hide (h.below E.out.below)
  have hfew := h.few
  have hzp := fun w => zeroPf w
  clear h
  go_enter Tryd.func9, Tryd.ntmps9
  go_wp2_with (first
    | (go_at_call 18; refine (len_any HTR.out.box (by rw [lv_zero]; omega)).mono ?_; rintro e w' ⟨rfl, rfl⟩; rw [lv_zero])
    | refine wpList_store_mid rfl 29 _ _ rfl (w.heap.size) 0 (rowV 1024 (pc pz)).toArray rfl rfl ((E.out.get 0 rfl).thereA _) (info_pfA _) (rowV_oneA _ _) ?_)
  have EE := hide (E.out.put 0 rfl (pc pz))
  refine bodyPost_ret (v := .tuple #[.agg (rowV 1024 (pc pz)).toArray, .int .i64 10]) ?_ rfl ⟨rfl, EE.out.below⟩
  have hlv := run_loadVar_mid (P := Tryd.prog) _ _ _ _ _ _ (EE.out.get 0 rfl).range Tryd.underlying29 rfl (info_pf _)
  exact results_two Tryd.results9 rfl rfl hlv
set_option maxRecDepth 100000 in
set_option maxHeartbeats 8000000 in
theorem make_yes {w : World} {g d : Nat} {S : Nat → Prop} {L : List Hs} (h : Tr w g S d L) (n i : Nat) (hn : n ≤ L.length) (hi : i < n) (ht : Tab w 1) :
    Calls Tryd.prog 9 #[.pointer (some ⟨g, 0, none⟩), .int .u64 n, .int .u64 i] w fun e w' => e = .returned (.tuple #[.agg (rowV 1024 (pc (mp (L.take n) d i))).toArray, .int .i64 0]) ∧ Below w.heap.size w w' := by
  have E0 : Hid (Bxs w ((w.alloc (.cells (rowV 1024 (pc pz)).toArray 29)).alloc (.cells (rowV 1024 (pc pz)).toArray 29)) [(w.heap.size + 1, 1024, pc pz), (w.heap.size, 1024, pc pz)]) := ((Bxs.none w).add rfl (BRow.box w 1024 _ _ rfl)).add (by simp) (BRow.box _ 1024 _ _ (by simp))
  have HTR := hide h
  have HTR1 := hide (h.below ((Bxs.none w).past (.cells (rowV 1024 (pc pz)).toArray 29)).below)
  have HTR2 := hide (h.below E0.out.below)
  have HT := hide ht
  have hfew := h.few
  have hdi : (d : Int) ≤ 32 := by have := h.dep; omega
  have hni : (n : Int) ≤ (L.length : Int) := by omega
  have hii : (i : Int) < (n : Int) := by omega
  have HN := hide hn; have HI := hide hi; have HLN := hide h.len; have HD := hide h.dep
  have hzp := fun w => zeroPf w
  have HLOW := hide h.box.low
  clear h ht hn hi
  go_enter Tryd.func9, Tryd.ntmps9
  go_wp2_with (first
    | (go_at_call 18; refine (len_any HTR1.out.box (by rw [lv_zero]; omega)).mono ?_; rintro e w' ⟨rfl, rfl⟩; rw [lv_zero])
    | (go_at_call 19; refine (depth_any HTR2.out.box).mono ?_; rintro e w' ⟨rfl, rfl⟩))
  generalize (w.alloc (.cells (rowV 1024 (pc pz)).toArray 29)).alloc (.cells (rowV 1024 (pc pz)).toArray 29) = w1 at *
  obtain ⟨M, hM⟩ : ∃ M, L.take n = M := ⟨_, rfl⟩
  have HM := hide hM
  have HOK : Hid (Hoks M) := by rw [← hM]; exact fun f hf => HTR.out.ok f (List.mem_of_mem_take hf)
  clear hM HTR HTR1 hzp
  go_loopg [25] d (fun gk t wr => ∃ b : Nat, gk + b = d ∧ t = .int .i64 b ∧ Bxs w wr [(w.heap.size + 1, 1024, pc (mp M b i)), (w.heap.size, 1024, pc pz)] ∧ Tr wr g S d L)
  case atStart => exact ⟨0, by omega, rfl, by rw [mp_zero]; exact E0.out, HTR2.out⟩
  case round =>
    clear E0 HTR2
    obtain ⟨b, hb0, rfl, he, htr⟩ := hrel
    have E := hide he; have HB := hide hb0; have HTR := hide htr
    clear he hb0 htr
    by_cases hlt : b < d
    · have hbi : (b : Int) < (d : Int) := by omega
      have hb32 : ¬ (32 : Int) ≤ (b : Int) := by omega
      obtain ⟨r, hr⟩ : ∃ r, i / 2 ^ b = r := ⟨_, rfl⟩
      have hdr : (i : Int) / 2 ^ b = (r : Int) := by rw [← hr]; simp
      have hrl : r ≤ 1000 := by have := Nat.div_le_self i (2 ^ b); have := HI.out; have := HN.out; omega
      have hri : (r : Int) ≤ 1000 := by omega
      have hxs := xor_sib r (by omega)
      have hpl : Hid (sib r < 2 ^ (d - b)) := by
        obtain ⟨m, hm⟩ : ∃ m, d - b = m + 1 := ⟨d - b - 1, by omega⟩
        have h2 : r < 2 ^ (d - b) := by
          rw [← hr]
          refine (Nat.div_lt_iff_lt_mul (Nat.two_pow_pos b)).2 ?_
          rw [← Nat.pow_add, Nat.sub_add_cancel (by omega)]
          have := HLN.out; have := HI.out; have := HN.out; omega
        show _ < _
        rw [hm, Nat.pow_succ, Nat.mul_comm] at h2 ⊢
        exact sib_lt h2
      have hsl : sib r ≤ 1001 := by unfold sib; split <;> omega
      have HR := hide hr
      clear hr
      have HSB : Hid (sib (i / 2 ^ b) = sib r) := by show _ = _; rw [HR.out]
      generalize sib r = s at *
      have hsi : (s : Int) ≤ 1001 := by omega
      have hbd : b ≤ 31 := by have := HD.out; omega
      go_wp2_with fail
      refine (node_yes HTR.out n b s HN.out (by omega) hpl.out (HT.out.below E.out.below)).mono ?_
      rintro e w3 ⟨rfl, hb⟩
      rw [HM.out]
      obtain ⟨N, hN⟩ : ∃ N, tn M b s = N := ⟨_, rfl⟩
      have HNN := hide hN
      rw [hN]
      replace E := hide (E.out.after hb)
      replace HTR := hide (HTR.out.below hb)
      clear hb hN
      go_wp2_with (refine wpList_store_stop rfl 28 _ _ rfl (w.heap.size + 1) (b * 32) (rowV 32 N) rfl rfl ((E.out.get 0 rfl).thereAt (b * 32) 32 N (by omega)) (info_hash32A N) (rowV_oneA _ _) ?_)
      intro w4 hw4
      have E4 : Hid (Bxs w w4 [(w.heap.size + 1, 1024, pc (mp M (b + 1) i)), (w.heap.size, 1024, pc pz)] ∧ Tr w4 g S d L) := by
        show Bxs _ _ _ ∧ _
        rw [hw4.out]
        exact ⟨E.out.putAt 0 rfl (b * 32) 32 N (pc (mp M (b + 1) i)) (by omega) (fun j hj => by rw [mp_next, HSB.out, HNN.out]; exact pc_upd _ _ _ j),
          HTR.out.of (by rw [setCells_size]; exact Nat.le_refl _) fun k hk => setCells_block _ _ _ _ _ (by have := HLOW.out k hk; omega)⟩
      clear hw4 E HTR
      go_wp2
      go_roundg (d - b - 1)
      case measure => have := HB.out; omega
      case rel => exact ⟨b + 1, by omega, by go_num, E4.out.1, E4.out.2⟩
    · obtain rfl : b = d := by have := HB.out; omega
      obtain ⟨R, hR⟩ : ∃ R, mp M b i = R := ⟨_, rfl⟩
      rw [hR] at E
      have HRR := hide hR
      clear hR
      go_wp2_with (first
        | refine wpList_load_mid rfl 29 _ rfl (w.heap.size + 1) 0 rfl (rowV 1024 (pc R)) _ (E.out.get 0 rfl).range Tryd.underlying29 rfl (info_pf _) ?_
        | refine wpList_store_mid rfl 29 _ _ rfl (w.heap.size) 0 (rowV 1024 (pc R)).toArray rfl rfl ((E.out.get 1 rfl).thereA _) (info_pfA _) (rowV_oneA _ _) ?_)
      have EE := hide (E.out.put 1 rfl (pc R))
      refine bodyPost_ret (v := .tuple #[.agg (rowV 1024 (pc R)).toArray, .int .i64 0]) ?_ rfl ⟨by rw [HM.out, HRR.out], EE.out.below⟩
      have hlv := run_loadVar_mid (P := Tryd.prog) _ _ _ _ _ _ (EE.out.get 1 rfl).range Tryd.underlying29 rfl (info_pf _)
      exact results_two Tryd.results9 rfl rfl hlv
end Go.Proofs.YtjkhboejhcbdpaaDoor
