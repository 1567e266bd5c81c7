/- The contract of digest's (*State).Sum over this translation. -/
import Derived.Test.YtjkhboejhcbdpaaDoorDigEnd
namespace Go.Proofs.YtjkhboejhcbdpaaDoor
open Go.RowKit Go.Lib
attribute [local go_sem] setCell_drewN alloc_drewN

/-- A store of a long row, and what the world is then. -/
theorem wpList_store_stop {ops : Array Oper} {rest : List Oper} {op : Oper} {a : Act} {w : World} {Q : Exit → Act → World → Prop} (hgd : op.guard = none) (ty : TypeId) (x y : Operand) (ho : op.op = .store ty x y)
    (b o : Nat) (vs : List Value) (hx : a.eval x = .pointer (some ⟨b, o, none⟩)) (hy : a.eval y = .agg vs.toArray)
    (ht : w.there b o vs.toArray.size) (hi : (Tryd.prog.info? ty).map (·.size) = some vs.toArray.size) (h1 : vs.toArray.all (·.oneCell') = true)
    (h : ∀ w', Hid (w' = w.setCells b o vs) → wpList Tryd.prog ops Q rest (a.put op.dst undef) w') : wpList Tryd.prog ops Q (op :: rest) a w :=
  wpList_store_mid hgd ty x y ho b o vs.toArray hx hy ht hi h1 (h _ (hide (by rw [List.toList_toArray])))
theorem SB.thereS {w : World} {g n : Nat} {h bl : Nat → Int} (s : SB w g h bl n) (h' bl' : Nat → Int) (n' : Nat) : w.there g 0 (sbV h' bl' n').toArray.size := by
  rw [List.size_toArray, sbV_length]
  intro j hj
  rw [Nat.zero_add, s.get j hj]
  have h2 : j < (sbV h bl n).length := by rw [sbV_length]; exact hj
  exact ⟨by rw [List.getElem?_eq_getElem h2]; rfl, s.fr j⟩
theorem SB.stored {w : World} {g n : Nat} {h bl : Nat → Int} (s : SB w g h bl n) (h' bl' : Nat → Int) (n' : Nat) : SB (w.setCells g 0 (sbV h' bl' n')) g h' bl' n' := by
  have ht : w.there g 0 (sbV h' bl' n').length := by have := s.thereS h' bl' n'; rwa [List.size_toArray] at this
  refine SB.mk' (by rw [setCells_size]; exact s.lt) (World.rangeAt_setCells_same w g 0 _ ht) (fun o => by rw [World.frozen?_setCells]; exact s.fr o)
theorem sbV_oneA (h bl : Nat → Int) (n : Nat) : (sbV h bl n).toArray.all (·.oneCell') = true := all_oneCell_toArray (sbV_one h bl n)
theorem info_hash32 (f : Nat → Int) : (Tryd.prog.info? 28).map (·.size) = some (rowV 32 f).length := by rw [rowV_length]; kernel_rfl
theorem info_hash32A (f : Nat → Int) : (Tryd.prog.info? 28).map (·.size) = some (rowV 32 f).toArray.size := by rw [List.size_toArray, rowV_length]; kernel_rfl
theorem BRow.zeros32 (w : World) {g : Nat} (e : w.heap.size = g) : BRow (w.alloc (.cells #[.int .u8 0, .int .u8 0, .int .u8 0, .int .u8 0, .int .u8 0, .int .u8 0, .int .u8 0, .int .u8 0, .int .u8 0, .int .u8 0, .int .u8 0, .int .u8 0, .int .u8 0, .int .u8 0, .int .u8 0, .int .u8 0, .int .u8 0, .int .u8 0, .int .u8 0, .int .u8 0, .int .u8 0, .int .u8 0, .int .u8 0, .int .u8 0, .int .u8 0, .int .u8 0, .int .u8 0, .int .u8 0, .int .u8 0, .int .u8 0, .int .u8 0, .int .u8 0] 28)) g 32 (fun _ => 0) := by
  have h := BRow.new w 32 28 e
  exact h
theorem out8_at (E : St8) (k q r : Nat) (hq : k / 4 = q) (hr : k % 4 = r) : out8 E k = s8 E q / 256 ^ (3 - r) % 256 := by
  subst hq hr; rfl
theorem out_next (E : St8) (k j : Nat) (v : Int) (hv : v = out8 E k) : (if j = k then v else if j < k then out8 E j else 0) = if j < k + 1 then out8 E j else 0 := by
  by_cases e : j = k
  · subst e; rw [if_pos rfl, if_pos (by omega), hv]
  · rw [if_neg e]
    by_cases e2 : j < k
    · rw [if_pos e2, if_pos (by omega)]
    · rw [if_neg e2, if_neg (by omega)]
/-- What stands while a sum's bytes are written. -/
structure OD (w0 w : World) (g1 : Nat) (h bl : Nat → Int) (n : Nat) : Prop where
  res : BRow w w0.heap.size 32 (fun _ => 0)
  sb : SB w g1 h bl n
  below : Below w0.heap.size w0 w
theorem OD.other {w0 w : World} {g1 n : Nat} {h bl : Nat → Int} (d : OD w0 w g1 h bl n) {p : Addr} (h1 : w0.heap.size < p.block) (h2 : g1 ≠ p.block) (v : Value) : OD w0 (w.setCell p v) g1 h bl n :=
  ⟨d.res.other (by omega) v, d.sb.of (by simp [World.setCell]) (Below.heap_setCell _ _ _ _ h2), d.below.setCell (by omega) v⟩
theorem sum8_is (l : List Int) : eight (padded l) = sum8 l := rfl
theorem endL_byt (n : Nat) : Byt (endL n) := fun x hx => padded_byt (l := List.replicate n 0) (fun y hy => by have := List.eq_of_mem_replicate hy; omega) x (by rw [padded_is, List.length_replicate]; exact List.mem_append_right _ hx)
set_option maxRecDepth 100000 in
set_option maxHeartbeats 8000000 in
theorem ssum_any {w : World} {g : Nat} {l : List Int} {bl : Nat → Int} (hs : SS w g l bl) (hby : Byt l) (hbl : ∀ j, 0 ≤ bl j ∧ bl j < 256) (hlen : l.length ≤ 900000) (ht : Tab w 1) :
    Calls Tryd.prog 39 #[.pointer (some ⟨g, 0, none⟩)] w fun e w' => e = .returned (.agg (rowV 32 (sha l)).toArray) ∧ Below w.heap.size w w' := by
  have HS := hide hs; have HBY := hide hby; have HBL := hide hbl; have HT := hide ht
  have hgl : g < w.heap.size := hs.sb.lt
  have HTL : Hid (1 < w.heap.size) := ht.1
  have hgn : ¬ g = w.heap.size := by omega
  clear hs hby hbl ht
  have S0 := hide ((HS.out.sb.past (.cells #[.int .u8 0, .int .u8 0, .int .u8 0, .int .u8 0, .int .u8 0, .int .u8 0, .int .u8 0, .int .u8 0, .int .u8 0, .int .u8 0, .int .u8 0, .int .u8 0, .int .u8 0, .int .u8 0, .int .u8 0, .int .u8 0, .int .u8 0, .int .u8 0, .int .u8 0, .int .u8 0, .int .u8 0, .int .u8 0, .int .u8 0, .int .u8 0, .int .u8 0, .int .u8 0, .int .u8 0, .int .u8 0, .int .u8 0, .int .u8 0, .int .u8 0, .int .u8 0] 28)).past (.cells #[.int .u32 0, .int .u32 0, .int .u32 0, .int .u32 0, .int .u32 0, .int .u32 0, .int .u32 0, .int .u32 0, .int .u8 0, .int .u8 0, .int .u8 0, .int .u8 0, .int .u8 0, .int .u8 0, .int .u8 0, .int .u8 0, .int .u8 0, .int .u8 0, .int .u8 0, .int .u8 0, .int .u8 0, .int .u8 0, .int .u8 0, .int .u8 0, .int .u8 0, .int .u8 0, .int .u8 0, .int .u8 0, .int .u8 0, .int .u8 0, .int .u8 0, .int .u8 0, .int .u8 0, .int .u8 0, .int .u8 0, .int .u8 0, .int .u8 0, .int .u8 0, .int .u8 0, .int .u8 0, .int .u8 0, .int .u8 0, .int .u8 0, .int .u8 0, .int .u8 0, .int .u8 0, .int .u8 0, .int .u8 0, .int .u8 0, .int .u8 0, .int .u8 0, .int .u8 0, .int .u8 0, .int .u8 0, .int .u8 0, .int .u8 0, .int .u8 0, .int .u8 0, .int .u8 0, .int .u8 0, .int .u8 0, .int .u8 0, .int .u8 0, .int .u8 0, .int .u8 0, .int .u8 0, .int .u8 0, .int .u8 0, .int .u8 0, .int .u8 0, .int .u8 0, .int .u8 0, .int .u64 0] 95))
  have hz := fun w => zeroS w
  have S0a := hide (HS.out.sb.past (.cells #[.int .u8 0, .int .u8 0, .int .u8 0, .int .u8 0, .int .u8 0, .int .u8 0, .int .u8 0, .int .u8 0, .int .u8 0, .int .u8 0, .int .u8 0, .int .u8 0, .int .u8 0, .int .u8 0, .int .u8 0, .int .u8 0, .int .u8 0, .int .u8 0, .int .u8 0, .int .u8 0, .int .u8 0, .int .u8 0, .int .u8 0, .int .u8 0, .int .u8 0, .int .u8 0, .int .u8 0, .int .u8 0, .int .u8 0, .int .u8 0, .int .u8 0, .int .u8 0] 28))
  have N : Hid (SB ((w.alloc (.cells #[.int .u8 0, .int .u8 0, .int .u8 0, .int .u8 0, .int .u8 0, .int .u8 0, .int .u8 0, .int .u8 0, .int .u8 0, .int .u8 0, .int .u8 0, .int .u8 0, .int .u8 0, .int .u8 0, .int .u8 0, .int .u8 0, .int .u8 0, .int .u8 0, .int .u8 0, .int .u8 0, .int .u8 0, .int .u8 0, .int .u8 0, .int .u8 0, .int .u8 0, .int .u8 0, .int .u8 0, .int .u8 0, .int .u8 0, .int .u8 0, .int .u8 0, .int .u8 0] 28)).alloc (.cells #[.int .u32 0, .int .u32 0, .int .u32 0, .int .u32 0, .int .u32 0, .int .u32 0, .int .u32 0, .int .u32 0, .int .u8 0, .int .u8 0, .int .u8 0, .int .u8 0, .int .u8 0, .int .u8 0, .int .u8 0, .int .u8 0, .int .u8 0, .int .u8 0, .int .u8 0, .int .u8 0, .int .u8 0, .int .u8 0, .int .u8 0, .int .u8 0, .int .u8 0, .int .u8 0, .int .u8 0, .int .u8 0, .int .u8 0, .int .u8 0, .int .u8 0, .int .u8 0, .int .u8 0, .int .u8 0, .int .u8 0, .int .u8 0, .int .u8 0, .int .u8 0, .int .u8 0, .int .u8 0, .int .u8 0, .int .u8 0, .int .u8 0, .int .u8 0, .int .u8 0, .int .u8 0, .int .u8 0, .int .u8 0, .int .u8 0, .int .u8 0, .int .u8 0, .int .u8 0, .int .u8 0, .int .u8 0, .int .u8 0, .int .u8 0, .int .u8 0, .int .u8 0, .int .u8 0, .int .u8 0, .int .u8 0, .int .u8 0, .int .u8 0, .int .u8 0, .int .u8 0, .int .u8 0, .int .u8 0, .int .u8 0, .int .u8 0, .int .u8 0, .int .u8 0, .int .u8 0, .int .u64 0] 95)) (w.heap.size + 1) (fun _ => 0) (fun _ => 0) 0) := by
    show SB _ _ _ _ _
    rw [zero_box]; exact SB.box _ _ _ _ _ (by simp)
  go_enter Tryd.func39, Tryd.ntmps39
  go_wp2_with (first
    | refine wpList_load_mid rfl 95 _ rfl g 0 rfl (sbV (s8 (eight l)) bl l.length) _ S0a.out.range Tryd.underlying95 rfl (info_sb _ _ _) ?_
    | refine wpList_store_stop rfl 95 _ _ rfl (w.heap.size + 1) 0 (sbV (s8 (eight l)) bl l.length) rfl rfl (N.out.thereS _ _ _) (info_sbA _ _ _) (sbV_oneA _ _ _) ?_)
  intro w1 hw1
  have hb1 : Below w.heap.size w w1 := by rw [hw1.out]; exact setCells_below (bAl (bAl (bMe w))) (by omega) _ _
  have S1 : Hid (SB w1 (w.heap.size + 1) (s8 (eight l)) bl l.length) := by
    show SB _ _ _ _ _
    rw [hw1.out]; exact N.out.stored _ _ _
  have R1 : Hid (BRow w1 w.heap.size 32 (fun _ => 0)) := by
    show BRow _ _ _ _
    rw [hw1.out]
    exact ((BRow.zeros32 w rfl).past (.cells #[.int .u32 0, .int .u32 0, .int .u32 0, .int .u32 0, .int .u32 0, .int .u32 0, .int .u32 0, .int .u32 0, .int .u8 0, .int .u8 0, .int .u8 0, .int .u8 0, .int .u8 0, .int .u8 0, .int .u8 0, .int .u8 0, .int .u8 0, .int .u8 0, .int .u8 0, .int .u8 0, .int .u8 0, .int .u8 0, .int .u8 0, .int .u8 0, .int .u8 0, .int .u8 0, .int .u8 0, .int .u8 0, .int .u8 0, .int .u8 0, .int .u8 0, .int .u8 0, .int .u8 0, .int .u8 0, .int .u8 0, .int .u8 0, .int .u8 0, .int .u8 0, .int .u8 0, .int .u8 0, .int .u8 0, .int .u8 0, .int .u8 0, .int .u8 0, .int .u8 0, .int .u8 0, .int .u8 0, .int .u8 0, .int .u8 0, .int .u8 0, .int .u8 0, .int .u8 0, .int .u8 0, .int .u8 0, .int .u8 0, .int .u8 0, .int .u8 0, .int .u8 0, .int .u8 0, .int .u8 0, .int .u8 0, .int .u8 0, .int .u8 0, .int .u8 0, .int .u8 0, .int .u8 0, .int .u8 0, .int .u8 0, .int .u8 0, .int .u8 0, .int .u8 0, .int .u8 0, .int .u64 0] 95)).of (by rw [setCells_size]; exact Nat.le_refl _) (setCells_block _ _ _ _ _ (by omega))
  have HT1 := hide (HT.out.below hb1)
  have cn := (HS.out.sb.after hb1 rfl).cn
  have B := hide hb1
  clear hw1 S0 S0a N hb1 HT hz
  obtain ⟨g1, hg1⟩ : ∃ g1, w.heap.size + 1 = g1 := ⟨_, rfl⟩
  rw [hg1] at S1
  rw [hg1]
  have HG1 := hide hg1
  clear hg1
  go_wp2_with fail
  refine (ending_any l.length w1 (by omega)).mono ?_
  rintro e w2 ⟨k, hk, rfl, ha, hb⟩
  have hg1n : Hid (w1.heap.size ≠ g1) := by have := S1.out.lt; show _ ≠ _; omega
  replace S1 := hide (S1.out.after hb rfl); replace R1 := hide (R1.out.after hb rfl); replace B := hide (bOn B.out hb); replace HT1 := hide (HT1.out.below hb)
  clear hb cn
  subst hk
  have hel : (endL l.length).length ≤ 80 := by rw [endL_length]; unfold noughts; omega
  have HA := hide ha
  clear ha
  go_wp2_with fail
  have hadd := add1_any (w := w2) (g := g1) (l := l) (bl := bl) ⟨S1.out, HS.out.rest⟩ (some ⟨w1.heap.size, 0, none⟩) (endL l.length).length (endL l.length) HA.out (.inr (fun a e => by cases e; exact hg1n.out)) (Nat.le_refl _) (by unfold maxLen; omega) (HBY.out.app (endL_byt _)) HBL.out (by omega) HT1.out (by have := HG1.out; have := HTL.out; omega)
  refine hadd.mono ?_
  rintro e w3 ⟨rfl, ⟨bl3, hs3, hbl3⟩, hb3⟩
  rw [← padded_is] at hs3
  obtain ⟨E, hE⟩ : ∃ E, eight (padded l) = E := ⟨_, rfl⟩
  have HE := hide hE
  have HU : Hid (U8 E) := by rw [← hE]; exact eight_U _
  have D : Hid (OD w w3 g1 (s8 E) bl3 (padded l).length) := ⟨R1.out.of hb3.size (hb3.block _ R1.out.lt (by have := HG1.out; omega)), by rw [← hE]; exact hs3.sb, hb3.below B.out (by have := HG1.out; omega) (B.out.size)⟩
  have hg3 : Hid (g1 < w3.heap.size) := D.out.sb.lt
  clear hs3 hbl3 hb3 S1 R1 B HT1 HA hE hadd
  go_wp2
  have R4 := hide (BRow.zeros32 w3 (g := w3.heap.size) rfl)
  replace D := hide (show OD w (w3.alloc (.cells #[.int .u8 0, .int .u8 0, .int .u8 0, .int .u8 0, .int .u8 0, .int .u8 0, .int .u8 0, .int .u8 0, .int .u8 0, .int .u8 0, .int .u8 0, .int .u8 0, .int .u8 0, .int .u8 0, .int .u8 0, .int .u8 0, .int .u8 0, .int .u8 0, .int .u8 0, .int .u8 0, .int .u8 0, .int .u8 0, .int .u8 0, .int .u8 0, .int .u8 0, .int .u8 0, .int .u8 0, .int .u8 0, .int .u8 0, .int .u8 0, .int .u8 0, .int .u8 0] 28)) g1 (s8 E) bl3 (padded l).length from ⟨D.out.res.past _, D.out.sb.past _, bAl D.out.below⟩)
  have HG4 : Hid (w.heap.size < w3.heap.size ∧ g1 ≠ w3.heap.size) := ⟨by have := hg3.out; have := HG1.out; omega, by have := hg3.out; omega⟩
  generalize w3.alloc (.cells #[.int .u8 0, .int .u8 0, .int .u8 0, .int .u8 0, .int .u8 0, .int .u8 0, .int .u8 0, .int .u8 0, .int .u8 0, .int .u8 0, .int .u8 0, .int .u8 0, .int .u8 0, .int .u8 0, .int .u8 0, .int .u8 0, .int .u8 0, .int .u8 0, .int .u8 0, .int .u8 0, .int .u8 0, .int .u8 0, .int .u8 0, .int .u8 0, .int .u8 0, .int .u8 0, .int .u8 0, .int .u8 0, .int .u8 0, .int .u8 0, .int .u8 0, .int .u8 0] 28) = w4 at *
  generalize w3.heap.size = g4 at *
  go_loopg [15] 32 (fun gk t wr => ∃ k : Nat, gk + k = 32 ∧ t = .int .i64 k ∧ OD w wr g1 (s8 E) bl3 (padded l).length ∧ BRow wr g4 32 (fun j => if j < k then out8 E j else 0))
  case atStart => exact ⟨0, by omega, rfl, D.out, R4.out⟩
  case round =>
    clear D R4
    obtain ⟨k, hk, rfl, hd, hr4⟩ := hrel
    have D := hide hd; have R4 := hide hr4; have HK := hide hk
    clear hd hr4 hk
    by_cases hlt : k < 32
    · have hki : (k : Int) < 32 := by omega
      obtain ⟨q, hq⟩ : ∃ q, k / 4 = q := ⟨_, rfl⟩
      have hqi : (k : Int) / 4 = (q : Int) := by omega
      have hq8 : (q : Int) < 8 := by omega
      have HQ := hide hq
      have cq := D.out.sb.ch q (by omega)
      have ck := R4.out.cell k hlt
      have fk := R4.out.fr k
      obtain ⟨x0, x1⟩ := HU.out.get q
      clear hq
      rcases (by omega : k % 4 = 0 ∨ k % 4 = 1 ∨ k % 4 = 2 ∨ k % 4 = 3) with e | e | e | e
      · have hr : (k : Int) % 4 = 0 := by omega
        go_wp2
        go_roundg (32 - k - 1)
        case measure => have := HK.out; omega
        case rel =>
          refine ⟨k + 1, by omega, by go_num, (D.out.other (p := ⟨g4, k, none⟩) HG4.out.1 HG4.out.2 _), (R4.out.set k hlt _).congr (fun j hj => ?_)⟩
          exact out_next E k j _ (by rw [out8_at E k q 0 HQ.out e]; simp only [Nat.reduceSub, Int.reducePow] <;> omega)
      · have hr : (k : Int) % 4 = 1 := by omega
        go_wp2
        go_roundg (32 - k - 1)
        case measure => have := HK.out; omega
        case rel =>
          refine ⟨k + 1, by omega, by go_num, (D.out.other (p := ⟨g4, k, none⟩) HG4.out.1 HG4.out.2 _), (R4.out.set k hlt _).congr (fun j hj => ?_)⟩
          exact out_next E k j _ (by rw [out8_at E k q 1 HQ.out e]; simp only [Nat.reduceSub, Int.reducePow] <;> omega)
      · have hr : (k : Int) % 4 = 2 := by omega
        go_wp2
        go_roundg (32 - k - 1)
        case measure => have := HK.out; omega
        case rel =>
          refine ⟨k + 1, by omega, by go_num, (D.out.other (p := ⟨g4, k, none⟩) HG4.out.1 HG4.out.2 _), (R4.out.set k hlt _).congr (fun j hj => ?_)⟩
          exact out_next E k j _ (by rw [out8_at E k q 2 HQ.out e]; simp only [Nat.reduceSub, Int.reducePow] <;> omega)
      · have hr : (k : Int) % 4 = 3 := by omega
        go_wp2
        go_roundg (32 - k - 1)
        case measure => have := HK.out; omega
        case rel =>
          refine ⟨k + 1, by omega, by go_num, (D.out.other (p := ⟨g4, k, none⟩) HG4.out.1 HG4.out.2 _), (R4.out.set k hlt _).congr (fun j hj => ?_)⟩
          exact out_next E k j _ (by rw [out8_at E k q 3 HQ.out e]; simp only [Nat.reduceSub, Int.reducePow] <;> omega)
    · obtain rfl : k = 32 := by have := HK.out; omega
      have RF := hide (R4.out.congr (f' := out8 E) (fun j hj => if_pos hj))
      have RS := hide D.out.res
      have BS := hide D.out.below
      clear D R4
      go_wp2_with (first
        | refine wpList_load_mid rfl 28 _ rfl g4 0 rfl (rowV 32 (out8 E)) _ RF.out.range Tryd.underlying28 rfl (info_hash32 _) ?_
        | refine wpList_store_mid rfl 28 _ _ rfl w.heap.size 0 (rowV 32 (out8 E)).toArray rfl rfl (RS.out.thereA _) (info_hash32A _) (rowV_oneA _ _) ?_)
      refine bodyPost_ret (v := .agg (rowV 32 (out8 E)).toArray) ?_ rfl ⟨by rw [← HE.out]; rfl, setCells_below BS.out (Nat.le_refl _) _ _⟩
      have hlv := run_loadVar_mid (P := Tryd.prog) _ _ _ _ _ _ (RS.out.stored (out8 E)).range Tryd.underlying28 rfl (info_hash32 _)
      exact results_one Tryd.results39 rfl hlv
end Go.Proofs.YtjkhboejhcbdpaaDoor
