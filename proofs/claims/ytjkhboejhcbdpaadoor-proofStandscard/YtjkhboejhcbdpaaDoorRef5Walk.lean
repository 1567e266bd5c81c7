/- The contract of sponsionref05.Sum over this translation. -/
import Derived.Test.YtjkhboejhcbdpaaDoorRef5Sum
import Derived.Test.YtjkhboejhcbdpaaDoorDigSum
namespace Go.Proofs.YtjkhboejhcbdpaaDoor
open Go.RowKit Go.Lib
attribute [local go_sem] setCell_drewN alloc_drewN

theorem DS.set {w0 w : World} {g2 g3 b : Nat} {L : List Int} {hf : Nat → Int} (h : DS w0 w g2 g3 b L hf) (m : Nat) (hm : m < 8) (v : Int) : DS w0 (w.setCell ⟨g3, m, none⟩ (.int .u32 v)) g2 g3 b L (fun j => if j = m then v else hf j) := by
  obtain ⟨l1, l2, l3, l4⟩ := h.lo
  refine ⟨h.res.other (by simp only []; omega) _, h.h.set m hm v, h.by8.other (by simp only []; omega) _, ⟨by simpa [World.setCell] using h.tab.1, fun j hj => ?_⟩, h.lo, h.below.setCell (by simp only []; omega) _⟩
  exact (World.cell?_of_block (w := w) (a := ⟨_, j, none⟩) (Below.heap_setCell _ _ _ _ (by simp only []; omega))).trans (h.tab.2 j hj)
theorem DS.congr {w0 w : World} {g2 g3 b : Nat} {L : List Int} {hf hf' : Nat → Int} (h : DS w0 w g2 g3 b L hf) (e : ∀ j, j < 8 → hf j = hf' j) : DS w0 w g2 g3 b L hf' :=
  ⟨h.res, h.h.congr e, h.by8, h.tab, h.lo, h.below⟩
theorem DS.bar {w0 w w' : World} {g2 g3 b g : Nat} {L : List Int} {hf : Nat → Int} (h : DS w0 w g2 g3 b L hf) (hb : Bar g w w') (hg : b < g) : DS w0 w' g2 g3 b L hf := by
  obtain ⟨l1, l2, l3, l4⟩ := h.lo
  have hlt := h.by8.lt
  have hbl : ∀ k, k ≤ b → w'.heap[k]? = w.heap[k]? := fun k hk => hb.block k (by omega) (by omega)
  exact ⟨h.res.of hb.size (hbl g2 (by omega)), h.h.of hb.size (hbl g3 (by omega)), h.by8.of hb.size (hbl b (Nat.le_refl _)), h.tab.bar hb (by omega), h.lo, hb.below h.below (by omega) h.below.size⟩
theorem blocks_next {L : List Int} {k : Nat} {S r : St8} {F : Nat → Int} {WL : List Int} (hS : blocks8 start8 L k = S) (hF : blockW (blk64 L k) = F) (hW : words F 64 = WL) (hR : rounds8 S WL 64 = r) : blocks8 start8 L (k + 1) = grow S r := by
  show step8 (blocks8 start8 L k) (blk64 L k) = _
  rw [hS]
  unfold step8
  rw [hF, hW, hR]
/-- The bytes of a sum as far as they are written: i numbers, and m bytes of the next. -/
def outF (E : St8) (i m j : Nat) : Int := if j < 4 * i ∨ (j < 4 * i + 4 ∧ 4 * i + 4 ≤ j + m) then out8 E j else 0
theorem outF_next (E : St8) (i m j p : Nat) (hm : m < 4) (hp : 4 * i + 3 - m = p) (v : Int) (hv : v = out8 E p) : (if j = p then v else outF E i m j) = outF E i (m + 1) j := by
  unfold outF
  by_cases e : j = p
  · subst e; rw [if_pos rfl, if_pos (by omega), hv]
  · rw [if_neg e]
    by_cases e2 : j < 4 * i ∨ (j < 4 * i + 4 ∧ 4 * i + 4 ≤ j + m)
    · rw [if_pos e2, if_pos (by omega)]
    · rw [if_neg e2, if_neg (by omega)]
theorem outF_zero (E : St8) (i j : Nat) : (if j < 4 * i then out8 E j else 0) = outF E i 0 j := by
  unfold outF
  by_cases e : j < 4 * i
  · rw [if_pos e, if_pos (.inl e)]
  · rw [if_neg e, if_neg (by omega)]
theorem outF_four (E : St8) (i j : Nat) : outF E i 4 j = if j < 4 * (i + 1) then out8 E j else 0 := by
  unfold outF
  by_cases e : j < 4 * (i + 1)
  · rw [if_pos e, if_pos (by omega)]
  · rw [if_neg e, if_neg (by omega)]
theorem out_byte (E : St8) (i m p : Nat) (hm : m < 4) (hp : 4 * i + 3 - m = p) : s8 E i / 256 ^ m % 256 = out8 E p := by
  rw [out8_at E p i (3 - m) (by omega) (by omega), show 3 - (3 - m) = m by omega]
theorem out_div (x : Int) (m : Nat) : x / 256 ^ m / 256 = x / 256 ^ (m + 1) := by
  rw [Int.pow_succ, Int.ediv_ediv_of_nonneg (Int.le_of_lt (Int.pow_pos (by decide)))]
set_option maxRecDepth 100000 in
set_option maxHeartbeats 8000000 in
theorem refsum_any {w : World} (so : Option Addr) (c : Nat) (l : List Int) (hs : At w so l) (hso : so = none → c = 0) (hl : l.length ≤ 100000) (hby : Byt l) (ht : Tab w 0) :
    Calls Tryd.prog 35 #[.slice so l.length c] w fun e w' => e = .returned (.agg (rowV 32 (sha l)).toArray) ∧ Below w.heap.size w w' := by
  have HS := hide hs; have HSO := hide hso; have HBY := hide hby; have HT := hide ht
  clear hs hso hby ht
  go_enter Tryd.func35, Tryd.ntmps35
  go_wp2_with fail
  have R2 := hide ((BRow.new w 32 28 (g := w.heap.size) rfl).past (.cells #[.int .u32 1779033703, .int .u32 3144134277, .int .u32 1013904242, .int .u32 2773480762, .int .u32 1359893119, .int .u32 2600822924, .int .u32 528734635, .int .u32 1541459225] 87))
  have R3 : Hid (R32 ((w.alloc (.cells #[.int .u8 0, .int .u8 0, .int .u8 0, .int .u8 0, .int .u8 0, .int .u8 0, .int .u8 0, .int .u8 0, .int .u8 0, .int .u8 0, .int .u8 0, .int .u8 0, .int .u8 0, .int .u8 0, .int .u8 0, .int .u8 0, .int .u8 0, .int .u8 0, .int .u8 0, .int .u8 0, .int .u8 0, .int .u8 0, .int .u8 0, .int .u8 0, .int .u8 0, .int .u8 0, .int .u8 0, .int .u8 0, .int .u8 0, .int .u8 0, .int .u8 0, .int .u8 0] 28)).alloc (.cells #[.int .u32 1779033703, .int .u32 3144134277, .int .u32 1013904242, .int .u32 2773480762, .int .u32 1359893119, .int .u32 2600822924, .int .u32 528734635, .int .u32 1541459225] 87)) (w.heap.size + 1) 8 (s8 start8)) := R32.lit (w.alloc (.cells #[.int .u8 0, .int .u8 0, .int .u8 0, .int .u8 0, .int .u8 0, .int .u8 0, .int .u8 0, .int .u8 0, .int .u8 0, .int .u8 0, .int .u8 0, .int .u8 0, .int .u8 0, .int .u8 0, .int .u8 0, .int .u8 0, .int .u8 0, .int .u8 0, .int .u8 0, .int .u8 0, .int .u8 0, .int .u8 0, .int .u8 0, .int .u8 0, .int .u8 0, .int .u8 0, .int .u8 0, .int .u8 0, .int .u8 0, .int .u8 0, .int .u8 0, .int .u8 0] 28)) [1779033703, 3144134277, 1013904242, 2773480762, 1359893119, 2600822924, 528734635, 1541459225] 87 (by simp) rfl
  have B : Hid (Below w.heap.size w ((w.alloc (.cells #[.int .u8 0, .int .u8 0, .int .u8 0, .int .u8 0, .int .u8 0, .int .u8 0, .int .u8 0, .int .u8 0, .int .u8 0, .int .u8 0, .int .u8 0, .int .u8 0, .int .u8 0, .int .u8 0, .int .u8 0, .int .u8 0, .int .u8 0, .int .u8 0, .int .u8 0, .int .u8 0, .int .u8 0, .int .u8 0, .int .u8 0, .int .u8 0, .int .u8 0, .int .u8 0, .int .u8 0, .int .u8 0, .int .u8 0, .int .u8 0, .int .u8 0, .int .u8 0] 28)).alloc (.cells #[.int .u32 1779033703, .int .u32 3144134277, .int .u32 1013904242, .int .u32 2773480762, .int .u32 1359893119, .int .u32 2600822924, .int .u32 528734635, .int .u32 1541459225] 87))) := bAl (bAl (bMe w))
  have e32 : Array.replicate 32 (Value.int .u8 0) = #[.int .u8 0, .int .u8 0, .int .u8 0, .int .u8 0, .int .u8 0, .int .u8 0, .int .u8 0, .int .u8 0, .int .u8 0, .int .u8 0, .int .u8 0, .int .u8 0, .int .u8 0, .int .u8 0, .int .u8 0, .int .u8 0, .int .u8 0, .int .u8 0, .int .u8 0, .int .u8 0, .int .u8 0, .int .u8 0, .int .u8 0, .int .u8 0, .int .u8 0, .int .u8 0, .int .u8 0, .int .u8 0, .int .u8 0, .int .u8 0, .int .u8 0, .int .u8 0] := rfl
  rw [e32] at R2
  clear e32
  have hsz : ((w.alloc (.cells #[.int .u8 0, .int .u8 0, .int .u8 0, .int .u8 0, .int .u8 0, .int .u8 0, .int .u8 0, .int .u8 0, .int .u8 0, .int .u8 0, .int .u8 0, .int .u8 0, .int .u8 0, .int .u8 0, .int .u8 0, .int .u8 0, .int .u8 0, .int .u8 0, .int .u8 0, .int .u8 0, .int .u8 0, .int .u8 0, .int .u8 0, .int .u8 0, .int .u8 0, .int .u8 0, .int .u8 0, .int .u8 0, .int .u8 0, .int .u8 0, .int .u8 0, .int .u8 0] 28)).alloc (.cells #[.int .u32 1779033703, .int .u32 3144134277, .int .u32 1013904242, .int .u32 2773480762, .int .u32 1359893119, .int .u32 2600822924, .int .u32 528734635, .int .u32 1541459225] 87)).heap.size = w.heap.size + 2 := by simp
  generalize (w.alloc (.cells #[.int .u8 0, .int .u8 0, .int .u8 0, .int .u8 0, .int .u8 0, .int .u8 0, .int .u8 0, .int .u8 0, .int .u8 0, .int .u8 0, .int .u8 0, .int .u8 0, .int .u8 0, .int .u8 0, .int .u8 0, .int .u8 0, .int .u8 0, .int .u8 0, .int .u8 0, .int .u8 0, .int .u8 0, .int .u8 0, .int .u8 0, .int .u8 0, .int .u8 0, .int .u8 0, .int .u8 0, .int .u8 0, .int .u8 0, .int .u8 0, .int .u8 0, .int .u8 0] 28)).alloc (.cells #[.int .u32 1779033703, .int .u32 3144134277, .int .u32 1013904242, .int .u32 2773480762, .int .u32 1359893119, .int .u32 2600822924, .int .u32 528734635, .int .u32 1541459225] 87) = w1 at *
  refine (padded_any so c l (HS.out.below B.out) HSO.out hl).mono ?_
  rintro e w2 ⟨v, rfl, hv, hb⟩
  obtain ⟨nb, hnb⟩ : ∃ nb, (padded l).length = 64 * nb := padded_len l
  have hnb1 : 0 < nb := by have := padded_pos l; omega
  have hnb2 : (padded l).length ≤ 200000 := padded_le l hl
  have HP := hide (padded_byt HBY.out)
  obtain ⟨L, hL⟩ : ∃ L, padded l = L := ⟨_, rfl⟩
  rw [hL] at hv hnb HP hnb2
  have HL := hide hL; have HNB := hide hnb
  rcases hv.2 with ⟨_, e0⟩ | ⟨b, cap, cur, rfl, hb2, r⟩
  · omega
  have hcap : L.length ≤ cap ∧ cap ≤ 9223372036854775807 := by have := r.2.1; have := r.2.2.1; unfold maxLen at this; omega
  have D : Hid (DS w w2 w.heap.size (w.heap.size + 1) b L (s8 (blocks8 start8 L 0))) :=
    ⟨R2.out.after hb rfl, R3.out.after hb rfl, ⟨(Array.getElem?_eq_some_iff.1 r.1).1, fun j hj => by rw [World.ownsRow.cellAt hv j (by omega), bv_get hj], fun j => World.ownsRow.frozenAt hv j⟩, (HT.out.below (bOn B.out hb)), ⟨Nat.le_refl _, by omega, by omega, HT.out.1⟩, bOn B.out hb⟩
  clear hv hb hb2 r R2 R3 B hL hnb hsz
  generalize w.heap.size + 1 = g3 at *
  generalize hg2 : w.heap.size = g2 at *
  go_wp2
  go_loopg [5] nb (fun gk t5 wr => ∃ k : Nat, gk + k = nb ∧ t5 = .int .i64 ((64 * k : Nat) : Int) ∧ DS w wr g2 g3 b L (s8 (blocks8 start8 L k)))
  case atStart => exact ⟨0, by omega, rfl, D.out⟩
  case round =>
    clear D
    obtain ⟨k, hk, rfl, hd⟩ := hrel
    have D := hide hd; have HK := hide hk
    clear hd hk
    have hnbl := HNB.out
    by_cases hlt : k < nb
    · obtain ⟨A, hA⟩ : ∃ A, 64 * k = A := ⟨_, rfl⟩
      rw [hA]
      have hA2 : A + 64 ≤ L.length := by omega
      have hAi : (A : Int) < (L.length : Int) := by omega
      have HAE := hide hA
      clear hA hnbl
      go_wp2
      have W0 := hide (R32.zeros' wr (g := wr.heap.size) rfl)
      have hbW : b < wr.heap.size := D.out.by8.lt
      replace D := hide (D.out.after (bAl (o := (.cells #[.int .u32 0, .int .u32 0, .int .u32 0, .int .u32 0, .int .u32 0, .int .u32 0, .int .u32 0, .int .u32 0, .int .u32 0, .int .u32 0, .int .u32 0, .int .u32 0, .int .u32 0, .int .u32 0, .int .u32 0, .int .u32 0, .int .u32 0, .int .u32 0, .int .u32 0, .int .u32 0, .int .u32 0, .int .u32 0, .int .u32 0, .int .u32 0, .int .u32 0, .int .u32 0, .int .u32 0, .int .u32 0, .int .u32 0, .int .u32 0, .int .u32 0, .int .u32 0, .int .u32 0, .int .u32 0, .int .u32 0, .int .u32 0, .int .u32 0, .int .u32 0, .int .u32 0, .int .u32 0, .int .u32 0, .int .u32 0, .int .u32 0, .int .u32 0, .int .u32 0, .int .u32 0, .int .u32 0, .int .u32 0, .int .u32 0, .int .u32 0, .int .u32 0, .int .u32 0, .int .u32 0, .int .u32 0, .int .u32 0, .int .u32 0, .int .u32 0, .int .u32 0, .int .u32 0, .int .u32 0, .int .u32 0, .int .u32 0, .int .u32 0, .int .u32 0] 89)) (bMe wr)))
      generalize wr.alloc (.cells #[.int .u32 0, .int .u32 0, .int .u32 0, .int .u32 0, .int .u32 0, .int .u32 0, .int .u32 0, .int .u32 0, .int .u32 0, .int .u32 0, .int .u32 0, .int .u32 0, .int .u32 0, .int .u32 0, .int .u32 0, .int .u32 0, .int .u32 0, .int .u32 0, .int .u32 0, .int .u32 0, .int .u32 0, .int .u32 0, .int .u32 0, .int .u32 0, .int .u32 0, .int .u32 0, .int .u32 0, .int .u32 0, .int .u32 0, .int .u32 0, .int .u32 0, .int .u32 0, .int .u32 0, .int .u32 0, .int .u32 0, .int .u32 0, .int .u32 0, .int .u32 0, .int .u32 0, .int .u32 0, .int .u32 0, .int .u32 0, .int .u32 0, .int .u32 0, .int .u32 0, .int .u32 0, .int .u32 0, .int .u32 0, .int .u32 0, .int .u32 0, .int .u32 0, .int .u32 0, .int .u32 0, .int .u32 0, .int .u32 0, .int .u32 0, .int .u32 0, .int .u32 0, .int .u32 0, .int .u32 0, .int .u32 0, .int .u32 0, .int .u32 0, .int .u32 0] 89) = w4 at *
      generalize wr.heap.size = gW at *
      obtain ⟨F, hF⟩ : ∃ F, blockW (blk64 L k) = F := ⟨_, rfl⟩
      have HF := hide hF
      have HFU : Hid (∀ j, U32 (F j)) := fun j => by rw [← hF]; exact blockW_U (blk64_byt HP.out k) j
      clear hF
      go_loopg [29] 64 (fun gk t29 wr => ∃ i : Nat, gk + i = 64 ∧ t29 = .int .i64 i ∧ R32 wr gW 64 (fun j => (words F i).getD j 0) ∧ DS w wr g2 g3 b L (s8 (blocks8 start8 L k)))
      case atStart => exact ⟨0, by omega, rfl, W0.out.congr (fun j _ => rfl), D.out⟩
      case round =>
        clear D W0
        obtain ⟨i, hi, rfl, hw, hd⟩ := hrel
        have D := hide hd; have WR := hide hw; have HI := hide hi
        clear hd hw hi
        by_cases hlti : i < 64
        · have hii : (i : Int) < 64 := by omega
          have HNX := hide (fun j => words_next F i j)
          have cw := WR.out.cell i hlti
          have fw := WR.out.fr i
          by_cases h16 : i < 16
          · have h16i : (i : Int) < 16 := by omega
            have hsl := cut_mid b L.length cap (A + 4 * i) (A + 4 * i + 4) (by omega) (by omega) ((A : Int) + 4 * (i : Int)) ((A : Int) + 4 * (i : Int) + 4) (by omega) (by omega) (by omega)
            rw [show A + 4 * i + 4 - (A + 4 * i) = 4 by omega] at hsl
            have y0 := D.out.by8.cell (A + 4 * i) (by omega)
            have y1 := D.out.by8.cell (A + 4 * i + 1) (by omega)
            have y2 := D.out.by8.cell (A + 4 * i + 2) (by omega)
            have y3 := D.out.by8.cell (A + 4 * i + 3) (by omega)
            obtain ⟨p0, q0⟩ := HP.out.get (A + 4 * i)
            obtain ⟨p1, q1⟩ := HP.out.get (A + 4 * i + 1)
            obtain ⟨p2, q2⟩ := HP.out.get (A + 4 * i + 2)
            obtain ⟨p3, q3⟩ := HP.out.get (A + 4 * i + 3)
            have HV : Hid (nextW F (words F i) i = L.getD (A + 4 * i) 0 * 16777216 + L.getD (A + 4 * i + 1) 0 * 65536 + L.getD (A + 4 * i + 2) 0 * 256 + L.getD (A + 4 * i + 3) 0) := by
              show _ = _
              unfold nextW
              rw [if_pos h16, ← HF.out]
              unfold blockW
              rw [blk64_get L k _ (by omega), blk64_get L k _ (by omega), blk64_get L k _ (by omega), blk64_get L k _ (by omega), HAE.out]
              rfl
            generalize L.getD (A + 4 * i) 0 = z0 at *
            generalize L.getD (A + 4 * i + 1) 0 = z1 at *
            generalize L.getD (A + 4 * i + 2) 0 = z2 at *
            generalize L.getD (A + 4 * i + 3) 0 = z3 at *
            go_wp2
            go_region
            all_goals
              go_wp2
              go_roundg (64 - i - 1)
              case measure => have := HI.out; omega
              case rel =>
                refine ⟨i + 1, by omega, by go_num, ?_, ?_⟩
                · refine ((WR.out.set i hlti _).dn 1).congr (fun j _ => ?_)
                  rw [← HNX.out j, HV.out]
                · exact (D.out.other (p := ⟨gW, i, none⟩) hbW _).after (bMe _).drew
          · have h16i : ¬ (i : Int) < 16 := by omega
            obtain ⟨a16, h1⟩ : ∃ a, i = a + 16 := ⟨i - 16, by omega⟩
            obtain ⟨a15, h2⟩ : ∃ a, i = a + 15 := ⟨i - 15, by omega⟩
            obtain ⟨a7, h3⟩ : ∃ a, i = a + 7 := ⟨i - 7, by omega⟩
            obtain ⟨a2, h4⟩ : ∃ a, i = a + 2 := ⟨i - 2, by omega⟩
            have c16 := WR.out.cell a16 (by omega)
            have c15 := WR.out.cell a15 (by omega)
            have c7 := WR.out.cell a7 (by omega)
            have c2 := WR.out.cell a2 (by omega)
            have HX := hide (words_get HFU.out i a15)
            have HY := hide (words_get HFU.out i a2)
            have i15 : (i : Int) - 15 = (a15 : Int) := by omega
            have i2 : (i : Int) - 2 = (a2 : Int) := by omega
            have j16 : IntKind.i64.wrap ((i : Int) - 16) = (a16 : Int) := by rw [IntKind.wrap_i64]; omega
            have j7 : IntKind.i64.wrap ((i : Int) - 7) = (a7 : Int) := by rw [IntKind.wrap_i64]; omega
            have b16 : (a16 : Int) < 64 := by omega
            have b15 : (a15 : Int) < 64 := by omega
            have b7 : (a7 : Int) < 64 := by omega
            have b2 : (a2 : Int) < 64 := by omega
            have HV : Hid (nextW F (words F i) i = m32 ((words F i).getD a16 0 + (words F i).getD a7 0 + sg0 ((words F i).getD a15 0) + sg1 ((words F i).getD a2 0))) := by
              show _ = _
              unfold nextW
              rw [if_neg h16, show i - 16 = a16 by omega, show i - 7 = a7 by omega, show i - 15 = a15 by omega, show i - 2 = a2 by omega]
            have H1 := hide h1; have H2 := hide h2; have H3 := hide h3; have H4 := hide h4
            clear h1 h2 h3 h4
            generalize (words F i).getD a16 0 = za at *
            generalize (words F i).getD a7 0 = zb at *
            generalize (words F i).getD a15 0 = x at *
            generalize (words F i).getD a2 0 = y at *
            have n16 : ¬ a16 = i := by have := H1.out; omega
            have n7 : ¬ a7 = i := by have := H3.out; omega
            go_wp2
            clear i15 i2
            go_region_held3 (fun w' => w'.cell? ⟨gW, a16, none⟩ = some (.int .u32 za) ∧ w'.cell? ⟨gW, a7, none⟩ = some (.int .u32 zb)) (first | exact ⟨c16, c7⟩ | (constructor <;> simp [go_sem, c16, c7]))
              (first
                | (go_at_call_of 46 (Value.int .i64 7); refine (turn_lit x 7 7 _ rfl HX.out (by decide)).mono ?_; rintro e w' ⟨rfl, rfl⟩)
                | (go_at_call_of 46 (Value.int .i64 18); refine (turn_lit x 18 18 _ rfl HX.out (by decide)).mono ?_; rintro e w' ⟨rfl, rfl⟩)
                | (go_at_call_of 46 (Value.int .i64 3); refine (move_lit x 3 3 _ rfl HX.out (by decide)).mono ?_; rintro e w' ⟨rfl, rfl⟩)
                | (go_at_call_of 46 (Value.int .i64 17); refine (turn_lit y 17 17 _ rfl HY.out (by decide)).mono ?_; rintro e w' ⟨rfl, rfl⟩)
                | (go_at_call_of 46 (Value.int .i64 19); refine (turn_lit y 19 19 _ rfl HY.out (by decide)).mono ?_; rintro e w' ⟨rfl, rfl⟩)
                | (go_at_call_of 46 (Value.int .i64 10); refine (move_lit y 10 10 _ rfl HY.out (by decide)).mono ?_; rintro e w' ⟨rfl, rfl⟩)
                | (go_at_call_of 45 (Value.int .u32 (rotr x 7)); refine (both_any _ _ _ _ (rotr_U HX.out (by decide)) (rotr_U HX.out (by decide)) (shr_U HX.out 3)).mono ?_; rintro e w' ⟨rfl, rfl⟩)
                | (go_at_call_of 45 (Value.int .u32 (rotr y 17)); refine (both_any _ _ _ _ (rotr_U HY.out (by decide)) (rotr_U HY.out (by decide)) (shr_U HY.out 10)).mono ?_; rintro e w' ⟨rfl, rfl⟩))
            all_goals
              go_wp2
              go_roundg (64 - i - 1)
              case measure => have := HI.out; omega
              case rel =>
                refine ⟨i + 1, by omega, by go_num, ?_, ?_⟩
                · refine ((WR.out.set i hlti _).dn 1).congr (fun j _ => ?_)
                  rw [← HNX.out j, HV.out, sum4w]
                · exact (D.out.other (p := ⟨gW, i, none⟩) hbW _).after (bMe _).drew
        · obtain rfl : i = 64 := by have := HI.out; omega
          obtain ⟨S, hS⟩ : ∃ S, blocks8 start8 L k = S := ⟨_, rfl⟩
          have HSS := hide hS
          have HSU : Hid (U8 S) := by rw [← hS]; exact blocks_U L k
          rw [hS] at D
          obtain ⟨WL, hWL⟩ : ∃ WL, words F 64 = WL := ⟨_, rfl⟩
          have HWL := hide hWL
          obtain ⟨V, hV⟩ : ∃ V : Nat → Int, (fun j => WL.getD j 0) = V := ⟨_, rfl⟩
          have HVV : Hid (∀ j, WL.getD j 0 = V j) := fun j => by rw [← hV]
          have WV : Hid (R32 wr gW 64 V) := WR.out.congr (fun j _ => by rw [hWL, ← hV])
          clear hS hWL hV WR HI hlti
          have Z8 := hide (R32.zeros8 wr (g := wr.heap.size) rfl)
          have hgA : Hid (b < wr.heap.size ∧ gW < wr.heap.size) := ⟨D.out.by8.lt, WV.out.lt⟩
          go_wp2_with (first
            | refine wpList_load_mid rfl 87 _ rfl g3 0 rfl (wordV 8 (s8 S)) _ D.out.h.range Tryd.underlying87 rfl (info_w8 _) ?_
            | refine wpList_store_stop rfl 87 _ _ rfl wr.heap.size 0 (wordV 8 (s8 S)) rfl rfl (Z8.out.thereA _) (info_w8A _) (wordV_oneA _ _) ?_)
          intro w5 hw5
          have DA : Hid (DS w w5 g2 g3 b L (s8 S) ∧ R32 w5 gW 64 V ∧ R32 w5 wr.heap.size 8 (s8 S)) := by
            show _ ∧ _ ∧ _
            rw [hw5.out]
            have hb5 : Below wr.heap.size wr ((wr.alloc (.cells #[.int .u32 0, .int .u32 0, .int .u32 0, .int .u32 0, .int .u32 0, .int .u32 0, .int .u32 0, .int .u32 0] 87)).setCells wr.heap.size 0 (wordV 8 (s8 S))) := setCells_below (bAl (bMe wr)) (Nat.le_refl _) _ _
            exact ⟨D.out.after hb5, WV.out.after hb5 rfl, Z8.out.stored _⟩
          clear hw5 Z8 D WV
          generalize wr.heap.size = gA at *
          go_wp2
          go_loopg [106] 64 (fun gk t106 wr => ∃ (i : Nat) (r : St8), gk + i = 64 ∧ t106 = .int .i64 i ∧ rounds8 S WL i = r ∧ DS w wr g2 g3 b L (s8 S) ∧ R32 wr gW 64 V ∧ R32 wr gA 8 (s8 r))
          case atStart => exact ⟨0, S, by omega, rfl, rfl, DA.out.1, DA.out.2.1, DA.out.2.2⟩
          case round =>
            clear DA
            obtain ⟨i, r, hi, rfl, hr, hd, hw, ha⟩ := hrel
            have D := hide hd; have WV := hide hw; have RA := hide ha; have HI := hide hi; have HR := hide hr
            have HU : Hid (U8 r) := by rw [← hr]; exact HSU.out.rounds WL i
            have HN : Hid (rounds8 S WL (i + 1) = round1 r (keysL.getD i 0) (V i)) := by
              show round1 (rounds8 S WL i) (keysL.getD i 0) (WL.getD i 0) = _
              rw [hr, HVV.out i]
            clear hd hw ha hi hr
            by_cases hlti : i < 64
            · have hii : (i : Int) < 64 := by omega
              have ck := D.out.tab.2 i hlti
              have cv := WV.out.cell i hlti
              obtain ⟨ra, rb, rc, rd, re, rf, rg, rh⟩ := r
              obtain ⟨ua, ub, uc, ud, ue, uf, ug, uh⟩ := HU.out
              simp only [] at ua ub uc ud ue uf ug uh
              have Ua := hide ua; have Ue := hide ue
              have c0 : wr.cell? ⟨gA, 0, none⟩ = some (.int .u32 ra) := RA.out.cell 0 (by omega)
              have c1 : wr.cell? ⟨gA, 1, none⟩ = some (.int .u32 rb) := RA.out.cell 1 (by omega)
              have c2 : wr.cell? ⟨gA, 2, none⟩ = some (.int .u32 rc) := RA.out.cell 2 (by omega)
              have c3 : wr.cell? ⟨gA, 3, none⟩ = some (.int .u32 rd) := RA.out.cell 3 (by omega)
              have c4 : wr.cell? ⟨gA, 4, none⟩ = some (.int .u32 re) := RA.out.cell 4 (by omega)
              have c5 : wr.cell? ⟨gA, 5, none⟩ = some (.int .u32 rf) := RA.out.cell 5 (by omega)
              have c6 : wr.cell? ⟨gA, 6, none⟩ = some (.int .u32 rg) := RA.out.cell 6 (by omega)
              have c7 : wr.cell? ⟨gA, 7, none⟩ = some (.int .u32 rh) := RA.out.cell 7 (by omega)
              have un : U32 (4294967295 - re) := by unfold U32 at ue ⊢; omega
              have x3 := an_is ue uf
              have x4 := an_is un ug
              have x5 := or_is (an_U ue uf) (an_U un ug)
              have y3 := an_is ua ub
              have y4 := an_is ua uc
              have y5 := an_is ub uc
              have y6 := or_is (an_U ua ub) (an_U ua uc)
              have y7 := or_is (orr_U (an_U ua ub) (an_U ua uc)) (an_U ub uc)
              obtain ⟨re0, re1⟩ := ue
              clear ua ub uc ud uf ug uh un
              generalize keysL.getD i 0 = kk at *
              generalize V i = vk at *
              go_wp2
              go_quiet (first
                | (go_at_call_of 46 (Value.int .i64 6); exact Calls.quiet_of_same (turn_lit re 6 6 _ rfl Ue.out (by decide)))
                | (go_at_call_of 46 (Value.int .i64 11); exact Calls.quiet_of_same (turn_lit re 11 11 _ rfl Ue.out (by decide)))
                | (go_at_call_of 46 (Value.int .i64 25); exact Calls.quiet_of_same (turn_lit re 25 25 _ rfl Ue.out (by decide)))
                | (go_at_call 45; exact Calls.quiet_of_same (both_any _ _ _ _ (rotr_U Ue.out (by decide)) (rotr_U Ue.out (by decide)) (rotr_U Ue.out (by decide)))))
              obtain ⟨T, hT⟩ : ∃ T, ((rh + xr3 (rotr re 6) (rotr re 11) (rotr re 25) + orr (an re rf) (an (4294967295 - re) rg) + kk) % 4294967296 + vk) % 4294967296 = T := ⟨_, rfl⟩
              rw [hT]
              have HTT : Hid (t1 ⟨ra, rb, rc, rd, re, rf, rg, rh⟩ kk vk = T) := by
                show _ = _
                rw [← hT]
                simp only [t1, m32, Sg1, cho]
                omega
              clear hT x3 x4 x5 ck cv c0 c1 c2 c3 c4 c5 c6 c7
              replace D := hide (D.out.after (bDn (bMe wr) (n := nq)))
              replace WV := hide (WV.out.dn nq)
              replace RA := hide (RA.out.dn nq)
              generalize wr.drewN nq = w6 at *
              have c0 : w6.cell? ⟨gA, 0, none⟩ = some (.int .u32 ra) := RA.out.cell 0 (by omega)
              have c1 : w6.cell? ⟨gA, 1, none⟩ = some (.int .u32 rb) := RA.out.cell 1 (by omega)
              have c2 : w6.cell? ⟨gA, 2, none⟩ = some (.int .u32 rc) := RA.out.cell 2 (by omega)
              have c3 : w6.cell? ⟨gA, 3, none⟩ = some (.int .u32 rd) := RA.out.cell 3 (by omega)
              have c4 : w6.cell? ⟨gA, 4, none⟩ = some (.int .u32 re) := RA.out.cell 4 (by omega)
              have c5 : w6.cell? ⟨gA, 5, none⟩ = some (.int .u32 rf) := RA.out.cell 5 (by omega)
              have c6 : w6.cell? ⟨gA, 6, none⟩ = some (.int .u32 rg) := RA.out.cell 6 (by omega)
              have c7 : w6.cell? ⟨gA, 7, none⟩ = some (.int .u32 rh) := RA.out.cell 7 (by omega)
              go_wp2
              go_quiet (first
                | (go_at_call_of 46 (Value.int .i64 2); exact Calls.quiet_of_same (turn_lit ra 2 2 _ rfl Ua.out (by decide)))
                | (go_at_call_of 46 (Value.int .i64 13); exact Calls.quiet_of_same (turn_lit ra 13 13 _ rfl Ua.out (by decide)))
                | (go_at_call_of 46 (Value.int .i64 22); exact Calls.quiet_of_same (turn_lit ra 22 22 _ rfl Ua.out (by decide)))
                | (go_at_call 45; exact Calls.quiet_of_same (both_any _ _ _ _ (rotr_U Ua.out (by decide)) (rotr_U Ua.out (by decide)) (rotr_U Ua.out (by decide)))))
              obtain ⟨U, hU⟩ : ∃ U, (xr3 (rotr ra 2) (rotr ra 13) (rotr ra 22) + orr (orr (an ra rb) (an ra rc)) (an rb rc)) % 4294967296 = U := ⟨_, rfl⟩
              rw [hU]
              have HUU : Hid (t2 ⟨ra, rb, rc, rd, re, rf, rg, rh⟩ = U) := hU
              clear hU y3 y4 y5 y6 y7 c0 c1 c2 c3 c4 c5 c6 c7
              replace D := hide (D.out.after (bDn (bMe w6) (n := nq)))
              replace WV := hide (WV.out.dn nq)
              replace RA := hide (RA.out.dn nq)
              generalize w6.drewN nq = w7 at *
              have c0 : w7.cell? ⟨gA, 0, none⟩ = some (.int .u32 ra) := RA.out.cell 0 (by omega)
              have c1 : w7.cell? ⟨gA, 1, none⟩ = some (.int .u32 rb) := RA.out.cell 1 (by omega)
              have c2 : w7.cell? ⟨gA, 2, none⟩ = some (.int .u32 rc) := RA.out.cell 2 (by omega)
              have c3 : w7.cell? ⟨gA, 3, none⟩ = some (.int .u32 rd) := RA.out.cell 3 (by omega)
              have c4 : w7.cell? ⟨gA, 4, none⟩ = some (.int .u32 re) := RA.out.cell 4 (by omega)
              have c5 : w7.cell? ⟨gA, 5, none⟩ = some (.int .u32 rf) := RA.out.cell 5 (by omega)
              have c6 : w7.cell? ⟨gA, 6, none⟩ = some (.int .u32 rg) := RA.out.cell 6 (by omega)
              go_wp2_with (refine wpList_store_stop rfl 87 _ _ rfl gA 0 (wordV 8 (s8 ⟨(T + U) % 4294967296, ra, rb, rc, (rd + T) % 4294967296, re, rf, rg⟩)) rfl rfl (RA.out.thereA _) (info_w8A _) (wordV_oneA _ _) ?_)
              intro w8 hw8
              have B8 : Hid (Bar gA w7 w8) := by
                show Bar _ _ _
                rw [hw8.out]; exact Bar.cells _ _ (Bar.refl _ _)
              have RA8 : Hid (R32 w8 gA 8 (s8 ⟨(T + U) % 4294967296, ra, rb, rc, (rd + T) % 4294967296, re, rf, rg⟩)) := by
                show R32 _ _ _ _
                rw [hw8.out]; exact RA.out.stored _
              replace D := hide (D.out.bar B8.out hgA.out.1)
              replace WV := hide (WV.out.of B8.out.size (B8.out.block _ WV.out.lt (by have := hgA.out.2; omega)))
              clear hw8 B8 RA c0 c1 c2 c3 c4 c5 c6
              go_wp2
              go_roundg (64 - i - 1)
              case measure => have := HI.out; omega
              case rel =>
                refine ⟨i + 1, ⟨(T + U) % 4294967296, ra, rb, rc, (rd + T) % 4294967296, re, rf, rg⟩, by omega, by go_num, ?_, D.out, WV.out, RA8.out⟩
                rw [HN.out]
                unfold round1
                rw [HTT.out, HUU.out]
                rfl
            · obtain rfl : i = 64 := by have := HI.out; omega
              obtain ⟨t, htg⟩ : ∃ t, grow S r = t := ⟨_, rfl⟩
              have HTG := hide htg
              clear htg HN HI hlti WV
              go_wp2
              go_loopg [192] 8 (fun gk t192 wr => ∃ i : Nat, gk + i = 8 ∧ t192 = .int .i64 i ∧ DS w wr g2 g3 b L (fun j => if j < i then s8 t j else s8 S j) ∧ R32 wr gA 8 (s8 r))
              case atStart => exact ⟨0, by omega, rfl, D.out, RA.out⟩
              case round =>
                clear D RA
                obtain ⟨i, hi, rfl, hd, ha⟩ := hrel
                have D := hide hd; have RA := hide ha; have HI := hide hi
                clear hd ha hi
                by_cases hlti : i < 8
                · have hii : (i : Int) < 8 := by omega
                  have ch : wr.cell? ⟨g3, i, none⟩ = some (.int .u32 (s8 S i)) := by simpa using D.out.h.cell i hlti
                  have ca := RA.out.cell i hlti
                  have fh := D.out.h.fr i
                  have hne : g3 ≠ gA := by have := D.out.lo; have := hgA.out; omega
                  have HV := hide (grown_next HTG.out i hlti ((s8 S i + s8 r i) % 4294967296) rfl)
                  obtain ⟨x, hx⟩ : ∃ x, s8 S i = x := ⟨_, rfl⟩
                  obtain ⟨y, hy⟩ : ∃ y, s8 r i = y := ⟨_, rfl⟩
                  rw [hx] at ch
                  rw [hy] at ca
                  rw [hx, hy] at HV
                  clear hx hy
                  go_wp2
                  go_region
                  all_goals
                    go_wp2
                    go_roundg (8 - i - 1)
                    case measure => have := HI.out; omega
                    case rel =>
                      refine ⟨i + 1, by omega, by go_num, ?_, (RA.out.other (by simp only []; omega) _).after (bMe _).drew rfl⟩
                      have Z := (D.out.set i hlti ((x + y) % 4294967296)).after (bMe _).drew
                      rw [HV.out] at Z
                      exact Z
                · obtain rfl : i = 8 := by have := HI.out; omega
                  replace D := hide (D.out.congr (hf' := s8 t) (fun j hj => if_pos hj))
                  have HB := hide (blocks_next HSS.out HF.out HWL.out HR.out)
                  clear RA HI hlti
                  go_wp2
                  go_roundg (nb - k - 1)
                  case measure => have := HK.out; omega
                  case rel =>
                    refine ⟨k + 1, by omega, val_i (by have := HAE.out; omega), ?_⟩
                    rw [HB.out, HTG.out]
                    exact D.out
    · obtain rfl : k = nb := by have := HK.out; omega
      obtain ⟨E, hE⟩ : ∃ E, blocks8 start8 L k = E := ⟨_, rfl⟩
      have HEU : Hid (U8 E) := by rw [← hE]; exact blocks_U L k
      have HSH : Hid (sha l = out8 E) := by
        show _ = _
        unfold sha sum8
        rw [HL.out, HNB.out, show 64 * k / 64 = k by omega, hE]
      rw [hE] at D
      have hge : ¬ (64 * (k : Int)) < (L.length : Int) := by have := HNB.out; omega
      clear hE hlt
      go_wp2
      have RO := hide (BRow.zeros32 wr (g := wr.heap.size) rfl)
      have hgO : Hid (b < wr.heap.size) := D.out.by8.lt
      replace D := hide (D.out.after (bAl (o := (.cells #[.int .u8 0, .int .u8 0, .int .u8 0, .int .u8 0, .int .u8 0, .int .u8 0, .int .u8 0, .int .u8 0, .int .u8 0, .int .u8 0, .int .u8 0, .int .u8 0, .int .u8 0, .int .u8 0, .int .u8 0, .int .u8 0, .int .u8 0, .int .u8 0, .int .u8 0, .int .u8 0, .int .u8 0, .int .u8 0, .int .u8 0, .int .u8 0, .int .u8 0, .int .u8 0, .int .u8 0, .int .u8 0, .int .u8 0, .int .u8 0, .int .u8 0, .int .u8 0] 28)) (bMe wr)))
      generalize wr.alloc (.cells #[.int .u8 0, .int .u8 0, .int .u8 0, .int .u8 0, .int .u8 0, .int .u8 0, .int .u8 0, .int .u8 0, .int .u8 0, .int .u8 0, .int .u8 0, .int .u8 0, .int .u8 0, .int .u8 0, .int .u8 0, .int .u8 0, .int .u8 0, .int .u8 0, .int .u8 0, .int .u8 0, .int .u8 0, .int .u8 0, .int .u8 0, .int .u8 0, .int .u8 0, .int .u8 0, .int .u8 0, .int .u8 0, .int .u8 0, .int .u8 0, .int .u8 0, .int .u8 0] 28) = w4 at *
      generalize wr.heap.size = gO at *
      go_loopg [205] 8 (fun gk t wr => ∃ i : Nat, gk + i = 8 ∧ t = .int .i64 i ∧ DS w wr g2 g3 b L (s8 E) ∧ BRow wr gO 32 (fun j => if j < 4 * i then out8 E j else 0))
      case atStart => exact ⟨0, by omega, rfl, D.out, RO.out.congr (fun j _ => by rw [if_neg (by omega)])⟩
      case round =>
        clear D RO
        obtain ⟨i, hi, rfl, hd, ho⟩ := hrel
        have D := hide hd; have RO := hide (ho.congr (fun j _ => outF_zero E i j)); have HI := hide hi
        clear hd ho hi
        by_cases hlti : i < 8
        · have hii : (i : Int) < 8 := by omega
          have ch := D.out.h.cell i hlti
          have HX := hide (HEU.out.get i)
          go_wp2
          go_loopg [18, 19] 4 (fun gk t18 t19 wr => ∃ (m : Nat) (y : Int), gk + m = 4 ∧ t18 = .int .u32 y ∧ s8 E i / 256 ^ m = y ∧ t19 = .int .i64 (3 - (m : Int)) ∧ DS w wr g2 g3 b L (s8 E) ∧ BRow wr gO 32 (outF E i m))
          case atStart => exact ⟨0, s8 E i, by omega, rfl, by simp, rfl, D.out, RO.out⟩
          case round =>
            clear D RO ch
            obtain ⟨m, y, hm, rfl, hy, rfl, hd, ho⟩ := hrel
            have D := hide hd; have RO := hide ho; have HM := hide hm; have HY := hide hy
            have hm4 : (m : Int) ≤ 4 := by omega
            have y0 : 0 ≤ y := by rw [← hy]; exact Int.ediv_nonneg HX.out.1 (Int.le_of_lt (Int.pow_pos (by decide)))
            have y1 : y < 4294967296 := by rw [← hy]; exact Int.lt_of_le_of_lt (Int.ediv_le_self _ HX.out.1) HX.out.2
            clear hd ho hm hy
            by_cases hltm : m < 4
            · obtain ⟨p, hp⟩ : ∃ p, 4 * i + 3 - m = p := ⟨_, rfl⟩
              have hpi : 4 * (i : Int) + (3 - (m : Int)) = (p : Int) := by omega
              have hp32 : (p : Int) < 32 := by omega
              have h3 : (0 : Int) ≤ 3 - (m : Int) := by omega
              have cp := RO.out.cell p (by omega)
              have fp := RO.out.fr p
              have HP := hide hp
              clear hp
              go_wp2
              go_roundg (4 - m - 1)
              case measure => have := HM.out; omega
              case rel =>
                refine ⟨m + 1, y / 256, by omega, rfl, by rw [← HY.out, out_div], val_i (by omega), D.out.other (p := ⟨gO, p, none⟩) hgO.out _, (RO.out.set p (by omega) _).congr (fun j _ => ?_)⟩
                exact outF_next E i m j p hltm HP.out _ (by rw [← out_byte E i m p hltm HP.out, HY.out])
            · obtain rfl : m = 4 := by have := HM.out; omega
              go_wp2
              go_roundg (8 - i - 1)
              case measure => have := HI.out; omega
              case rel => exact ⟨i + 1, by omega, by go_num, D.out, RO.out.congr (fun j _ => outF_four E i j)⟩
        · obtain rfl : i = 8 := by have := HI.out; omega
          have RF := hide (RO.out.congr (f' := out8 E) (fun j hj => by unfold outF; rw [if_pos (.inl (by omega))]))
          have RS := hide D.out.res
          have BS := hide D.out.below
          have hlo := hide D.out.lo.1
          clear D RO
          go_wp2_with (first
            | refine wpList_load_mid rfl 28 _ rfl gO 0 rfl (rowV 32 (out8 E)) _ RF.out.range Tryd.underlying28 rfl (info_hash32 _) ?_
            | refine wpList_store_mid rfl 28 _ _ rfl g2 0 (rowV 32 (out8 E)).toArray rfl rfl (RS.out.thereA _) (info_hash32A _) (rowV_oneA _ _) ?_)
          refine bodyPost_ret (v := .agg (rowV 32 (out8 E)).toArray) ?_ rfl ⟨by rw [HSH.out], setCells_below BS.out hlo.out _ _⟩
          have hlv := run_loadVar_mid (P := Tryd.prog) _ _ _ _ _ _ (RS.out.stored (out8 E)).range Tryd.underlying28 rfl (info_hash32 _)
          exact results_one Tryd.results35 rfl hlv
end Go.Proofs.YtjkhboejhcbdpaaDoor
