/- The walk of PackWrites over this translation. -/
import Derived.Test.YtnhgadnmppjdeaaPackOwn
import Derived.Deep.DeepCutAuto
import Derived.Deep.CutBlock
namespace Go.Proofs.Ytnhgadnmppjdeaa
open Go.RowKit Go.Lib
attribute [local go_sem] setCell_drewN alloc_drewN same_wtr other_wtr

set_option maxHeartbeats 4000000 in
theorem packWrites_long (ao : Option Addr) (n cap : Nat) (t : Nat → Itm) (w : World) (h : Its w ao n cap t) (hf : fewB n t = false) :
    Calls Try.prog 3 #[.slice ao n cap] w fun e w' => e = .returned (.bool true) ∧ Below w.heap.size w w' := by
  have H := hide h
  clear h
  go_enter Try.func3, Try.ntmps3
  go_wp2_with fail
  refine (lives4_any _).mono ?_
  rintro e w1 ⟨rfl, hb1⟩
  have B := hide hb1
  clear hb1
  go_wp2_with fail
  refine (few_any (H.out.below B.out)).mono ?_
  rintro e w2 ⟨rfl, hb2⟩
  replace B := hide (bOn B.out hb2)
  clear hb2
  go_wp2_with fail
  refine (lives4_any _).mono ?_
  rintro e w3 ⟨rfl, hb3⟩
  replace B := hide (bOn B.out hb3)
  clear hb3
  go_wp2
  go_ret
  exact ⟨rfl, B.out⟩
theorem few_all {n : Nat} {t : Nat → Itm} (hf : fewB n t = true) : n ≤ 30 ∧ ∀ i, i < n → (t i).bl.length ≤ 100 := by unfold fewB at hf; exact of_decide_eq_true hf
theorem Bs.wrote {w w' : World} {B g : Nat} {v : Value} {l : List Int} {ao ao' : Option Addr} (h : Bs w B v l) (hw : Wrote g ao ao' w w') (h1 : g < B) (h2 : ∀ k, blk ao = Option.some k → v.ownBlock ≠ Option.some k) : Bs w' B v l :=
  h.of fun k hk => hw.block k (h.lt k hk).2 (by have := (h.lt k hk).1; omega) (fun e => h2 k e hk)
theorem off_wrote {w w' : World} {B g : Nat} {v : Value} {l : List Int} {ao ao' : Option Addr} (h : Bs w B v l) (hw : Wrote g ao ao' w w') (h2 : ∀ k, blk ao = some k → v.ownBlock ≠ some k) : ∀ k, blk ao' = some k → v.ownBlock ≠ some k := by
  intro k hk e
  rcases hw.own k hk with h' | h'
  · exact h2 k h' e
  · have := (h.lt k e).2; omega
theorem itmV_h {w : World} {g : Nat} {t : Itm} (h : VRow w g (itmV t)) : w.rangeAt g 6 (rowV 32 t.h) := by
  intro j v hv
  have hj : j < 32 := by have := (List.getElem?_eq_some_iff.1 hv).1; rwa [rowV_length] at this
  rw [rowV_get hj] at hv
  injection hv with hv
  subst hv
  exact h.cell (6 + j) (itmV_hash t hj)
theorem itmV_at {w : World} {g : Nat} {t : Itm} (h : VRow w g (itmV t)) : At w (some ⟨g, 6, none⟩) ((List.range 32).map t.h) := by
  refine .inr ⟨_, _, rfl, h.lt, fun j hj => ?_⟩
  have hj' : j < 32 := by simpa using hj
  rw [h.cell (6 + j) (itmV_hash t hj')]; simp [hj']
theorem info_hash (f : Nat → Int) : (Try.prog.info? 33).map (·.size) = some (rowV 32 f).length := by rw [rowV_length]; kernel_rfl
/-- What stands in the middle of a round: the writer, the row of the item's bytes, the item. -/
structure PSt (w0 w : World) (g : Nat) (ao : Option Addr) (cap : Nat) (l : List Int) (B4 : Nat) (v : Value) (bl : List Int) (gx : Nat) (T : Itm) : Prop where
  wtr : Wtr w g ao cap l
  own : Bs w B4 v bl
  off : ∀ k, blk ao = some k → v.ownBlock ≠ some k
  itm : VRow w gx (itmV T)
  hgx : gx ≠ g
  hrow : blk ao ≠ some gx
  low : w0.heap.size ≤ g
  gB : g < B4
  xB : gx < B4
  below : Below w0.heap.size w0 w
theorem PSt.wrote {w0 w w' : World} {g cap B4 gx : Nat} {ao ao' : Option Addr} {l l' bl : List Int} {v : Value} {T : Itm} {cap' : Nat} (h : PSt w0 w g ao cap l B4 v bl gx T) (hw : Wtr w' g ao' cap' l') (hr : Wrote g ao ao' w w') : PSt w0 w' g ao' cap' l' B4 v bl gx T :=
  ⟨hw, h.own.wrote hr h.gB h.off, off_wrote h.own hr h.off, h.itm.wrote hr h.hgx h.hrow, h.hgx, fun e => by
    rcases hr.own gx e with e' | e'
    · exact h.hrow e'
    · have := h.itm.lt; omega, h.low, h.gB, h.xB, hr.below h.below h.low (fun k e => by have := (h.wtr.row k e).1; have := h.low; omega)⟩
theorem PSt.after {w0 w w' : World} {g cap B4 gx : Nat} {ao : Option Addr} {l bl : List Int} {v : Value} {T : Itm} (h : PSt w0 w g ao cap l B4 v bl gx T) (hb : Below w.heap.size w w') : PSt w0 w' g ao cap l B4 v bl gx T :=
  ⟨h.wtr.after hb rfl, h.own.below hb, h.off, h.itm.after hb rfl, h.hgx, h.hrow, h.low, h.gB, h.xB, bOn h.below hb⟩
theorem Wtr.other {w : World} {g cap : Nat} {ao : Option Addr} {l : List Int} (h : Wtr w g ao cap l) {p : Addr} (h1 : g ≠ p.block) (h2 : blk ao ≠ some p.block) (v : Value) : Wtr (w.setCell p v) g ao cap l :=
  ⟨by simpa [World.setCell] using h.lt, (World.cell?_of_block (w := w) (a := ⟨g, 0, none⟩) (Below.heap_setCell _ _ _ _ h1)).trans h.cell, fun o => (World.frozen?_of_block (w := w) (a := ⟨g, o, none⟩) (Below.heap_setCell _ _ _ _ h1)).trans (h.fr o), h.own.of fun k hk => Below.heap_setCell _ _ _ _ (fun e => h2 (by rw [← e, ← blk_own ao l.length cap]; exact hk))⟩
theorem PSt.set {w0 w : World} {g cap B4 gx go oc : Nat} {ao : Option Addr} {l lo : List Int} {T : Itm} (h : PSt w0 w g ao cap l B4 (.slice (some ⟨go, 0, none⟩) lo.length oc) lo gx T) (hgo : B4 ≤ go) (j : Nat) (y : Int) :
    PSt w0 (w.setCell ⟨go, j, none⟩ (.int .u8 y)) g ao cap l B4 (.slice (some ⟨go, 0, none⟩) (lo.set j y).length oc) (lo.set j y) gx T :=
  ⟨h.wtr.other (by have := h.gB; simp only []; omega) (fun e => h.off go e rfl) _, h.own.set j y, h.off, h.itm.of (by simp [World.setCell]) (Below.heap_setCell _ _ _ _ (by have := h.xB; simp only []; omega)), h.hgx, h.hrow, h.low, h.gB, h.xB, h.below.setCell (by have := h.low; have := h.gB; simp only []; omega) _⟩
set_option maxRecDepth 100000 in
set_option maxHeartbeats 8000000 in
theorem packWrites_part (ao : Option Addr) (n cap : Nat) (t : Nat → Itm) (w : World) (h : Its w ao n cap t) (hf : fewB n t = true) :
    Calls Try.prog 3 #[.slice ao n cap] w fun e w' => e = .returned (.bool true) ∧ Below w.heap.size w w' := by
  have H := hide h
  have HFEW := hide (few_all hf)
  have hn30 : n ≤ 30 := HFEW.out.1
  clear h
  go_enter Try.func3, Try.ntmps3
  go_wp2_with fail
  refine (lives4_any _).mono ?_
  rintro e w1 ⟨rfl, hb1⟩
  have B := hide hb1
  clear hb1
  go_wp2_with fail
  refine (few_any (H.out.below B.out)).mono ?_
  rintro e w2 ⟨rfl, hb2⟩
  replace B := hide (bOn B.out hb2)
  clear hb2
  go_wp2
  clear hf
  have HG : Hid (w.heap.size ≤ w2.heap.size) := B.out.size
  have W := hide (Wtr.new w2 28)
  replace B := hide (bAl (o := (.cells #[.slice none 0 0] 28)) B.out)
  generalize w2.alloc (.cells #[.slice none 0 0] 28) = w3 at *
  generalize w2.heap.size = g at *
  go_loopg [4, 22] n (fun gk t4 t22 wr => ∃ (k : Nat) (ao' : Option Addr) (cap' : Nat) (l : List Int), gk + k = n ∧ t22 = .int .i64 k ∧ t4 = .string (strOfNums l) ∧ l.length ≤ 100 * k ∧ Wtr wr g ao' cap' l ∧ Below w.heap.size w wr)
  case atStart => exact ⟨0, none, 0, [], by omega, rfl, rfl, by simp, W.out, B.out⟩
  case round =>
    clear B W
    obtain ⟨k, ao', cap', l, hk, rfl, rfl, hll, hw, hb⟩ := hrel
    have B := hide hb; have W := hide hw; have HK := hide hk
    clear hb hw hk
    by_cases hlt : k < n
    · have hki : (k : Int) < (n : Int) := by omega
      obtain ⟨b, off, rfl, hbl, hc⟩ := H.out.here (by omega)
      have R0 : Hid (wr.rangeAt b (off + k * 41) (itmV (t k))) := fun j v hv => (B.out.cell (p := ⟨b, off + k * 41 + j, none⟩) hbl).trans (hc k hlt j v hv)
      clear hc
      go_wp2_with (refine wpList_load_mid rfl 35 _ rfl b (off + k * 41) rfl (itmV (t k)) _ R0.out Try.underlying35 rfl (info_itm _) ?_)
      rw [storing_new wr _ 35 (itmV (t k)) (by rw [itmV_length]; rfl) (itmV_one _)]
      obtain ⟨V, B2⟩ := copied wr (t k)
      have HV := hide V
      have OK := hide (H.out.ok k)
      have HL := hide (HFEW.out.2 k hlt)
      have hg1 : g ≠ wr.heap.size := by have := W.out.lt; omega
      have hg2 : blk ao' ≠ some wr.heap.size := fun e => by have := W.out.row _ e; omega
      have HGX := hide hg1; have HGX2 := hide hg2
      replace W := hide (W.out.after B2 rfl)
      have BL := hide (((H.out.bl k hlt).below B.out).below B2)
      replace B := hide (bOn B.out B2)
      clear V B2 hg1 hg2 R0
      generalize (wr.alloc (.cells #[.int .u8 0, .int .u64 0, .int .u64 0, .int .u64 0, .int .u64 0, .int .u64 0, .int .u8 0, .int .u8 0, .int .u8 0, .int .u8 0, .int .u8 0, .int .u8 0, .int .u8 0, .int .u8 0, .int .u8 0, .int .u8 0, .int .u8 0, .int .u8 0, .int .u8 0, .int .u8 0, .int .u8 0, .int .u8 0, .int .u8 0, .int .u8 0, .int .u8 0, .int .u8 0, .int .u8 0, .int .u8 0, .int .u8 0, .int .u8 0, .int .u8 0, .int .u8 0, .int .u8 0, .int .u8 0, .int .u8 0, .int .u8 0, .int .u8 0, .int .u8 0, .slice none 0 0, .int .i64 0, .int .i64 0] 35)).setCells wr.heap.size 0 (itmV (t k)) = w4 at *
      generalize wr.heap.size = gx at *
      have c38 := HV.out.cell 38 (itmV_tail (t k) 0)
      have hgx := HV.out.lt
      generalize t k = T at *
      go_wp2_with (at_builtin; refine wpList_app rfl _ _ rfl (.slice (some ⟨w4.heap.size, 0, none⟩) 0 0) [] T.bl _ _ _ rfl rfl rfl (Bs.empty w4) (BL.out.below (bAl (bMe w4))) OK.out.bo (by have := HL.out; simp; omega) (by simp) ?_)
      intro v' w5 hb5 hg5 hn5
      obtain ⟨oo, oc, rfl, -, -, -⟩ := hb5.cell
      have hb45 : Below w4.heap.size w4 w5 := (bAl (bMe w4)).grown hg5 (by simp) (fun k e => by simp [Value.ownBlock] at e; omega)
      have OWN := hide hb5
      have HGB : Hid (g < w4.heap.size) := W.out.lt
      have HXB : Hid (gx < w4.heap.size) := HV.out.lt
      have HOFF : Hid (∀ k, blk ao' = some k → (Value.slice oo ([] ++ T.bl).length oc).ownBlock ≠ some k) := fun k hk e => by
        have h1 := W.out.row k hk
        have h2 := (hb5.lt k e).1
        omega
      replace W := hide (W.out.after hb45 rfl)
      replace HV := hide (HV.out.after hb45 rfl)
      replace B := hide (bOn B.out hb45)
      clear hb5 hg5 hn5 hb45 c38 BL hgx
      generalize w4.heap.size = B4 at *
      rw [List.nil_append] at *
      have S : Hid (PSt w w5 g ao' cap' l B4 (.slice oo T.bl.length oc) T.bl gx T) := ⟨W.out, OWN.out, HOFF.out, HV.out, HGX.out.symm, HGX2.out, HG.out, HGB.out, HXB.out, B.out⟩
      clear W OWN HOFF HV HGX HGX2 B HXB HGB
      have c0 := S.out.itm.cell 0 rfl
      obtain ⟨k0, k1⟩ := OK.out.kd
      go_upto_block 2 with fail
      clear c0
      go_cut [4, 8, 33] (fun s4 s8 _ wc => ∃ (ao2 : Option Addr) (cap2 : Nat) (l2 : List Int), s4 = .string (strOfNums l2) ∧ s8 = .pointer (some ⟨g, 0, none⟩) ∧ l2.length ≤ 100 * (k + 1) ∧ PSt w wc g ao2 cap2 l2 B4 (.slice oo T.bl.length oc) T.bl gx T)
      case first =>
        have hk7 : T.kd % 7 = 0 ∨ T.kd % 7 = 1 ∨ T.kd % 7 = 2 ∨ T.kd % 7 = 3 ∨ T.kd % 7 = 4 ∨ T.kd % 7 = 5 ∨ T.kd % 7 = 6 := by omega
        have hls : (strOfNums l).size ≤ 3000 := by rw [strOfNums_size]; omega
        obtain ⟨x0, x1⟩ := OK.out.x
        rcases hk7 with hk7 | hk7 | hk7 | hk7 | hk7 | hk7 | hk7
        · have c1 := S.out.itm.cell 1 rfl
          go_wp2_with fail
          refine (u8_any S.out.wtr _ (by omega) (by omega) (by omega)).mono ?_
          rintro e w6 ⟨rfl, ao2, cap2, hw6, hr6⟩
          replace S := hide (S.out.wrote hw6 hr6)
          clear hw6 hr6 c1
          have c1 := S.out.itm.cell 1 rfl
          go_wp2_with fail
          refine (num_any _ 1 _ (by omega) (by omega) (by omega)).mono ?_
          rintro e w7 ⟨rfl, hb7⟩
          replace S := hide (S.out.after hb7)
          clear hb7 c1
          have hz : (strOfNums (be (T.x % 256) 1)).size = 1 := by rw [strOfNums_size, be_length]
          go_wp2
          go_meet
          case rel => exact ⟨ao2, cap2, _, by rw [str_append], rfl, by rw [List.length_append, be_length]; omega, S.out⟩
        · have c1 := S.out.itm.cell 1 rfl
          go_wp2_with fail
          refine (u32_any S.out.wtr _ (by omega) (by omega) (by omega)).mono ?_
          rintro e w6 ⟨rfl, ao2, cap2, hw6, hr6⟩
          replace S := hide (S.out.wrote hw6 hr6)
          clear hw6 hr6 c1
          have c1 := S.out.itm.cell 1 rfl
          go_wp2_with fail
          refine (num_any _ 4 _ (by omega) (by omega) (by omega)).mono ?_
          rintro e w7 ⟨rfl, hb7⟩
          replace S := hide (S.out.after hb7)
          clear hb7 c1
          have hz : (strOfNums (be (T.x % 4294967296) 4)).size = 4 := by rw [strOfNums_size, be_length]
          go_wp2
          go_meet
          case rel => exact ⟨ao2, cap2, _, by rw [str_append], rfl, by rw [List.length_append, be_length]; omega, S.out⟩
        · have c1 := S.out.itm.cell 1 rfl
          go_wp2_with fail
          refine (u64_any S.out.wtr _ (by omega)).mono ?_
          rintro e w6 ⟨rfl, ao2, cap2, hw6, hr6⟩
          replace S := hide (S.out.wrote hw6 hr6)
          clear hw6 hr6 c1
          have c1 := S.out.itm.cell 1 rfl
          go_wp2_with fail
          refine (num_any _ 8 _ (by omega) (by omega) (by omega)).mono ?_
          rintro e w7 ⟨rfl, hb7⟩
          replace S := hide (S.out.after hb7)
          clear hb7 c1
          have hz : (strOfNums (be T.x 8)).size = 8 := by rw [strOfNums_size, be_length]
          go_wp2
          go_meet
          case rel => exact ⟨ao2, cap2, _, by rw [str_append], rfl, by rw [List.length_append, be_length]; omega, S.out⟩
        · have c2 := S.out.itm.cell 2 rfl
          have c3 := S.out.itm.cell 3 rfl
          have c4 := S.out.itm.cell 4 rfl
          have c5 := S.out.itm.cell 5 rfl
          go_wp2_with fail
          refine (wint_any S.out.wtr T.a OK.out.a (by omega)).mono ?_
          rintro e w6 ⟨rfl, ao2, cap2, hw6, hr6⟩
          replace S := hide (S.out.wrote hw6 hr6)
          clear hw6 hr6 c2 c3 c4 c5
          have c2 := S.out.itm.cell 2 rfl
          have c3 := S.out.itm.cell 3 rfl
          have c4 := S.out.itm.cell 4 rfl
          have c5 := S.out.itm.cell 5 rfl
          go_wp2_with fail
          refine (refint_any T.a _ OK.out.a).mono ?_
          rintro e w7 ⟨rfl, hb7⟩
          replace S := hide (S.out.after hb7)
          clear hb7 c2 c3 c4 c5
          have hz : (strOfNums (b32 T.a)).size = 32 := by rw [strOfNums_size, b32_length]
          go_wp2
          go_meet
          case rel => exact ⟨ao2, cap2, _, by rw [str_append], rfl, by rw [List.length_append, b32_length]; omega, S.out⟩
        · go_wp2_with (refine wpList_load_mid rfl 33 _ rfl gx 6 rfl (rowV 32 T.h) _ (itmV_h S.out.itm) Try.underlying33 rfl (info_hash _) ?_)
          refine (whash_any S.out.wtr T.h (by omega)).mono ?_
          rintro e w6 ⟨rfl, ao2, cap2, hw6, hr6⟩
          replace S := hide (S.out.wrote hw6 hr6)
          clear hw6 hr6
          have hcv := (itmV_at S.out.itm).str 32
          rw [List.length_map, List.length_range] at hcv
          have hz : (strOfNums ((List.range 32).map T.h)).size = 32 := by rw [strOfNums_size]; simp
          generalize (List.range 32).map T.h = hl at *
          have HZ : Hid (hl.length = 32) := by rw [← strOfNums_size]; exact hz
          go_wp2
          go_meet
          case rel => exact ⟨ao2, cap2, _, by rw [str_append], rfl, by rw [List.length_append, HZ.out]; omega, S.out⟩
        · have hown := S.out.own.at
          have HOWN := hide hown
          clear hown
          go_wp2_with fail
          refine (raw_any S.out.wtr oo oc T.bl HOWN.out.1 HOWN.out.2 (by have := HL.out; omega)).mono ?_
          rintro e w6 ⟨rfl, ao2, cap2, hw6, hr6⟩
          replace S := hide (S.out.wrote hw6 hr6)
          clear hw6 hr6 HOWN
          have hcv := S.out.own.at.1.str oc
          have hz : (strOfNums T.bl).size ≤ 100 := by rw [strOfNums_size]; exact HL.out
          go_wp2
          go_meet
          case rel => exact ⟨ao2, cap2, _, by rw [str_append], rfl, by have := HL.out; rw [List.length_append]; omega, S.out⟩
        · go_wp2
          go_meet
          case rel => exact ⟨ao', cap', l, rfl, rfl, by omega, S.out⟩
      case rest =>
        obtain ⟨ao2, cap2, l2, rfl, rfl, hl2, hs2⟩ := hcut
        have S2 := hide hs2
        clear hs2 S k0 k1 hll
        go_wp2
        go_loopg [104] T.bl.length (fun gk t104 wr => ∃ (j : Nat) (lo : List Int), gk + j = T.bl.length ∧ t104 = .int .i64 j ∧ lo.length = T.bl.length ∧ PSt w wr g ao2 cap2 l2 B4 (.slice oo lo.length oc) lo gx T)
        case atStart => exact ⟨0, T.bl, by omega, rfl, rfl, S2.out⟩
        case round =>
          clear S2
          obtain ⟨j, lo, hj, rfl, hlo, hs⟩ := hrel
          have S := hide hs; have HLO := hide hlo; have HJ := hide hj
          clear hs hlo hj
          by_cases hlt2 : j < T.bl.length
          · have hji : (j : Int) < (T.bl.length : Int) := by omega
            have hjm : T.bl.length ≤ 100 := HL.out
            obtain ⟨go, rfl, hB, hcell, hfz⟩ := S.out.own.some (by have := HLO.out; omega)
            have hc := hcell j (by have := HLO.out; omega)
            have hf := hfz j
            have HBG := hide hB
            clear hcell hfz hB
            go_wp2
            go_roundg (T.bl.length - j - 1)
            case measure => have := HJ.out; omega
            case rel => exact ⟨j + 1, lo.set j _, by have := HJ.out; omega, by go_num, by rw [List.length_set]; exact HLO.out, S.out.set HBG.out j _⟩
          · go_wp2_with fail
            refine (wbytes_any S.out.wtr (by omega)).mono ?_
            rintro e w8 ⟨v, rfl, hb8, hbb⟩
            obtain ⟨so, sc, rfl, _, _, ha⟩ := hb8.cell
            have hcv := ha.str sc
            replace S := hide (S.out.after hbb)
            clear hb8 hbb ha
            go_wp2
            go_roundg (n - k - 1)
            case measure => have := HK.out; omega
            case rel => exact ⟨k + 1, ao2, cap2, l2, by omega, by go_num, rfl, hl2, S.out.wtr, S.out.below⟩
    · go_wp2
      go_ret
      exact ⟨rfl, B.out⟩
theorem packWrites_walk (ao : Option Addr) (n cap : Nat) (t : Nat → Itm) (w : World) (h : Its w ao n cap t) :
    Calls Try.prog 3 #[.slice ao n cap] w fun e w' => e = .returned (.bool true) ∧ Below w.heap.size w w' := by
  cases hf : fewB n t
  · exact packWrites_long ao n cap t w h hf
  · exact packWrites_part ao n cap t w h hf
end Go.Proofs.Ytnhgadnmppjdeaa
