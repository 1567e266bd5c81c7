/- The walk of PackBack over this translation. -/
import Derived.Test.YtnhgadnmppjdeaaPackItem
import Derived.Test.YtnhgadnmppjdeaaPackReader3
import Derived.Test.YtnhgadnmppjdeaaHashEq
import Derived.Deep.DeepCutAuto
import Derived.Deep.CutBlock
import Derived.Deep.RegionHeldLaw
namespace Go.Proofs.Ytnhgadnmppjdeaa
open Go.RowKit Go.Lib
attribute [local go_sem] setCell_drewN alloc_drewN eqInt eqHash

theorem few_all' {n : Nat} {t : Nat → Itm} (hf : fewB n t = true) : n ≤ 30 ∧ ∀ i, i < n → (t i).bl.length ≤ 100 := by unfold fewB at hf; exact of_decide_eq_true hf
/-- An item's bytes. -/
def enc (T : Itm) : List Int := be T.kd 1 ++ (be (T.x % 4294967296) 4 ++ (be T.x 8 ++ (b32 T.a ++ ((List.range 32).map T.h ++ T.bl))))
theorem enc_length (T : Itm) : (enc T).length = 77 + T.bl.length := by
  unfold enc; simp only [List.length_append, be_length, b32_length, List.length_map, List.length_range]; omega
theorem map_byt {f : Nat → Int} (h : ∀ j, 0 ≤ f j ∧ f j < 256) (n : Nat) : Byt ((List.range n).map f) := by
  intro y hy; obtain ⟨i, _, rfl⟩ := List.mem_map.1 hy; exact h i
theorem enc_byt {T : Itm} (h : T.Ok) : Byt (enc T) :=
  (pre_byt _ _ _).app ((pre_byt _ _ _).app ((pre_byt _ _ _).app ((map_byt (bt_bd T.a) 32).app ((map_byt h.h 32).app h.bl))))
/-- The first items' bytes; the others'. -/
def encs (t : Nat → Itm) : Nat → List Int
  | 0 => []
  | k + 1 => encs t k ++ enc (t k)
def rest (t : Nat → Itm) (n : Nat) : Nat → List Int
  | 0 => []
  | j + 1 => enc (t (n - 1 - j)) ++ rest t n j
theorem encs_length {t : Nat → Itm} {n : Nat} (h : ∀ i, i < n → (t i).bl.length ≤ 100) : ∀ k, k ≤ n → (encs t k).length ≤ 177 * k
  | 0, _ => by simp [encs]
  | k + 1, hk => by
    have := encs_length h k (by omega)
    have := h k (by omega)
    show (encs t k ++ enc (t k)).length ≤ _
    rw [List.length_append, enc_length]; omega
theorem encs_rest (t : Nat → Itm) (n : Nat) : ∀ j, j ≤ n → encs t n = encs t (n - j) ++ rest t n j
  | 0, _ => by simp [rest]
  | j + 1, h => by
    rw [encs_rest t n j (by omega)]
    obtain ⟨m, hm⟩ : ∃ m, n - j = m + 1 := ⟨n - j - 1, by omega⟩
    show encs t (n - j) ++ rest t n j = encs t (n - (j + 1)) ++ (enc (t (n - 1 - j)) ++ rest t n j)
    rw [hm, show n - (j + 1) = m by omega, show n - 1 - j = m by omega, ← List.append_assoc]
    rfl
theorem rest_length {t : Nat → Itm} {n : Nat} (h : ∀ i, i < n → (t i).bl.length ≤ 100) : ∀ j, j ≤ n → (rest t n j).length ≤ 177 * j
  | 0, _ => by simp [rest]
  | j + 1, hj => by
    have := rest_length h j (by omega)
    have := h (n - 1 - j) (by omega)
    show (enc (t (n - 1 - j)) ++ rest t n j).length ≤ _
    rw [List.length_append, enc_length]; omega
theorem rest_byt {t : Nat → Itm} (h : ∀ i, (t i).Ok) (n : Nat) : ∀ j, Byt (rest t n j)
  | 0 => fun x hx => by simp [rest] at hx
  | j + 1 => (enc_byt (h _)).app (rest_byt h n j)
theorem bval_cons_pre (x : Int) (k : Nat) : ∀ j, j ≤ k → bval (pre x k j) = x / 2 ^ (8 * (k - j)) % 256 ^ j
  | 0, _ => by simp [pre, bval, Int.emod_one]
  | j + 1, h => by
    rw [pre_snoc, bval_snoc, bval_cons_pre x k j (by omega)]
    obtain ⟨m, hm⟩ : ∃ m, k = m + j + 1 := ⟨k - j - 1, by omega⟩
    subst hm
    rw [show m + j + 1 - j = m + 1 by omega, show m + j + 1 - 1 - j = m by omega, show m + j + 1 - (j + 1) = m by omega]
    have e : x / 2 ^ (8 * (m + 1)) = x / 2 ^ (8 * m) / 256 := by
      rw [show 8 * (m + 1) = 8 * m + 8 by omega, Int.pow_add, ← Int.ediv_ediv_of_nonneg (Int.le_of_lt (Int.pow_pos (by decide)))]
      rfl
    rw [e, Int.pow_succ, Int.mul_comm (256 ^ j) 256, mod_stepB (x / 2 ^ (8 * m)) 256 (256 ^ j) (by decide) (Int.pow_pos (by decide))]
    omega
theorem bval_be {x : Int} {k : Nat} (h0 : 0 ≤ x) (h1 : x < 256 ^ k) : bval (be x k) = x := by
  unfold be
  rw [bval_cons_pre x k k (Nat.le_refl _), Nat.sub_self, Nat.mul_zero]
  simp
  exact Int.emod_eq_of_lt h0 h1
theorem Read8.app {w w' : World} {g n : Nat} {rb : Option Nat} {p q : List Int} {v : Int} (h : Read8 w w' g n rb (p ++ q) 0 v) (hp : p.length = n) : v = bval p ∧ Rdr w' g rb q 0 ∧ Bar g w w' := by
  subst hp
  rcases h.1 with ⟨_, rfl, h2⟩ | ⟨h1, _⟩
  · rw [List.drop_left] at h2
    exact ⟨by rw [List.take_left], h2, h.2⟩
  · rw [List.length_append] at h1; omega
theorem ReadI.app {w w' : World} {g : Nat} {rb : Option Nat} {a : Int} {q : List Int} {v : Int} (h : ReadI w w' g rb (b32 a ++ q) 0 v) (ha : In a) : v = a ∧ Rdr w' g rb q 0 ∧ Bar g w w' := by
  rcases h.1 with ⟨_, rfl, h2⟩ | ⟨h1, _⟩
  · rw [List.drop_left' (b32_length a)] at h2
    refine ⟨?_, h2, h.2⟩
    rw [rv_congr (f' := bt a) (fun j hj => ?_) 32 (Nat.le_refl _), rv_bt_all ha]
    rw [List.getD_eq_getElem?_getD, List.getElem?_append_left (by rw [b32_length]; exact hj), ← List.getD_eq_getElem?_getD, b32_get a hj]
  · rw [List.length_append, b32_length] at h1; omega
theorem ReadH.app {w w' : World} {g : Nat} {rb : Option Nat} {h q : List Int} {f : Nat → Int} (r : ReadH w w' g rb (h ++ q) 0 f) (hl : h.length = 32) : (∀ j, f j = h.getD j 0) ∧ Rdr w' g rb q 0 ∧ Bar g w w' := by
  rcases r.1 with ⟨_, rfl, h2⟩ | ⟨h1, _⟩
  · rw [List.drop_left' hl] at h2
    exact ⟨fun j => by rw [List.take_left' hl], h2, r.2⟩
  · rw [List.length_append] at h1; omega
theorem ReadB.app {w w' : World} {g n : Nat} {rb : Option Nat} {p q l' : List Int} (h : ReadB w w' g n rb (p ++ q) 0 l') (hp : p.length = n) : l' = p ∧ Rdr w' g rb q 0 ∧ Bar g w w' := by
  subst hp
  rcases h.1 with ⟨_, rfl, h2⟩ | ⟨h1, _⟩
  · rw [List.drop_left] at h2
    exact ⟨by rw [List.take_left], h2, h.2⟩
  · rw [List.length_append] at h1; omega
/-- What stands in the middle of a round of writing. -/
structure WSt (w0 w : World) (g : Nat) (ao : Option Addr) (cap : Nat) (l : List Int) (gx : Nat) (T : Itm) : Prop where
  wtr : Wtr w g ao cap l
  itm : VRow w gx (itmV T)
  hgx : gx ≠ g
  hrow : blk ao ≠ some gx
  low : w0.heap.size ≤ g
  below : Below w0.heap.size w0 w
theorem WSt.wrote {w0 w w' : World} {g cap gx : Nat} {ao ao' : Option Addr} {l l' : List Int} {T : Itm} {cap' : Nat} (h : WSt w0 w g ao cap l gx T) (hw : Wtr w' g ao' cap' l') (hr : Wrote g ao ao' w w') : WSt w0 w' g ao' cap' l' gx T :=
  ⟨hw, h.itm.wrote hr h.hgx h.hrow, h.hgx, fun e => by
    rcases hr.own gx e with e' | e'
    · exact h.hrow e'
    · have := h.itm.lt; omega, h.low, hr.below h.below h.low (fun k e => by have := (h.wtr.row k e).1; have := h.low; omega)⟩
theorem WSt.after {w0 w w' : World} {g cap gx : Nat} {ao : Option Addr} {l : List Int} {T : Itm} (h : WSt w0 w g ao cap l gx T) (hb : Below w.heap.size w w') : WSt w0 w' g ao cap l gx T :=
  ⟨h.wtr.after hb rfl, h.itm.after hb rfl, h.hgx, h.hrow, h.low, bOn h.below hb⟩
/-- What stands in the middle of a round of reading. -/
structure RSt (w0 w : World) (g : Nat) (rb : Option Nat) (l : List Int) (gx : Nat) (T : Itm) : Prop where
  rdr : Rdr w g rb l 0
  itm : VRow w gx (itmV T)
  hgx : gx ≠ g
  low : w0.heap.size ≤ g
  below : Below w0.heap.size w0 w
theorem RSt.read {w0 w w' : World} {g gx : Nat} {rb : Option Nat} {l l' : List Int} {T : Itm} (h : RSt w0 w g rb l gx T) (hr : Rdr w' g rb l' 0) (hb : Bar g w w') : RSt w0 w' g rb l' gx T :=
  ⟨hr, h.itm.of hb.size (hb.block gx h.itm.lt h.hgx), h.hgx, h.low, hb.below h.below h.low h.below.size⟩
theorem RSt.after {w0 w w' : World} {g gx : Nat} {rb : Option Nat} {l : List Int} {T : Itm} (h : RSt w0 w g rb l gx T) (hb : Below w.heap.size w w') : RSt w0 w' g rb l gx T :=
  ⟨h.rdr.after hb rfl, h.itm.after hb rfl, h.hgx, h.low, bOn h.below hb⟩
theorem itmV_h' {w : World} {g : Nat} {t : Itm} (h : VRow w g (itmV t)) : w.rangeAt g 6 (rowV 32 t.h) := by
  intro j v hv
  have hj : j < 32 := by have := (List.getElem?_eq_some_iff.1 hv).1; rwa [rowV_length] at this
  rw [rowV_get hj] at hv
  injection hv with hv
  subst hv
  exact h.cell (6 + j) (itmV_hash t hj)
theorem heldI {w : World} {g : Nat} {T : Itm} (h : VRow w g (itmV T)) : w.cell? ⟨g, 0, none⟩ = some (.int .u8 T.kd) ∧ w.cell? ⟨g, 1, none⟩ = some (.int .u64 T.x) ∧ w.cell? ⟨g, 2, none⟩ = some (.int .u64 (lm T.a 0)) ∧ w.cell? ⟨g, 3, none⟩ = some (.int .u64 (lm T.a 1)) ∧ w.cell? ⟨g, 4, none⟩ = some (.int .u64 (lm T.a 2)) ∧ w.cell? ⟨g, 5, none⟩ = some (.int .u64 (lm T.a 3)) ∧ w.rangeAt g 6 (rowV 32 T.h) ∧ w.cell? ⟨g, 38, none⟩ = some (.slice T.bo T.bl.length T.bc) :=
  ⟨h.cell 0 rfl, h.cell 1 rfl, h.cell 2 rfl, h.cell 3 rfl, h.cell 4 rfl, h.cell 5 rfl, itmV_h' h, h.cell 38 (itmV_tail T 0)⟩
theorem heldJ {w : World} {g : Nat} {T : Itm} (h : VRow w g (itmV T)) (ha : At w T.bo T.bl) : w.cell? ⟨g, 0, none⟩ = some (.int .u8 T.kd) ∧ w.cell? ⟨g, 1, none⟩ = some (.int .u64 T.x) ∧ w.cell? ⟨g, 2, none⟩ = some (.int .u64 (lm T.a 0)) ∧ w.cell? ⟨g, 3, none⟩ = some (.int .u64 (lm T.a 1)) ∧ w.cell? ⟨g, 4, none⟩ = some (.int .u64 (lm T.a 2)) ∧ w.cell? ⟨g, 5, none⟩ = some (.int .u64 (lm T.a 3)) ∧ w.rangeAt g 6 (rowV 32 T.h) ∧ w.cell? ⟨g, 38, none⟩ = some (.slice T.bo T.bl.length T.bc) ∧ (convert 26 9 (.slice T.bo T.bl.length T.bc)).run Try.prog w = .ok (.string (strOfNums T.bl)) w :=
  ⟨h.cell 0 rfl, h.cell 1 rfl, h.cell 2 rfl, h.cell 3 rfl, h.cell 4 rfl, h.cell 5 rfl, itmV_h' h, h.cell 38 (itmV_tail T 0), ha.str T.bc⟩
set_option maxHeartbeats 4000000 in
theorem packBack_long (ao : Option Addr) (n cap : Nat) (t : Nat → Itm) (w : World) (h : Its w ao n cap t) (hf : fewB n t = false) :
    Calls Try.prog 5 #[.slice ao n cap] w fun e w' => e = .returned (.bool true) ∧ Below w.heap.size w w' := by
  have H := hide h
  clear h
  go_enter Try.func5, Try.ntmps5
  go_wp2_with fail
  refine (lives4_any _).mono ?_
  rintro e w1 ⟨rfl, hb1⟩
  have B := hide hb1
  clear hb1
  go_wp2_with fail
  refine (few_any (H.out.below B.out)).mono ?_
  rintro e w2 ⟨rfl, hb2⟩
  replace B := hide (bOn B.out hb2)
  clear hb2
  go_wp2_with fail
  refine (lives4_any _).mono ?_
  rintro e w3 ⟨rfl, hb3⟩
  replace B := hide (bOn B.out hb3)
  clear hb3
  go_wp2
  go_ret
  exact ⟨rfl, B.out⟩
set_option maxRecDepth 100000 in
set_option maxHeartbeats 8000000 in
theorem packBack_part (ao : Option Addr) (n cap : Nat) (t : Nat → Itm) (w : World) (h : Its w ao n cap t) (hf : fewB n t = true) :
    Calls Try.prog 5 #[.slice ao n cap] w fun e w' => e = .returned (.bool true) ∧ Below w.heap.size w w' := by
  have H := hide h
  have HFEW := hide (few_all' hf)
  have hn30 : n ≤ 30 := HFEW.out.1
  clear h
  go_enter Try.func5, Try.ntmps5
  go_wp2_with fail
  refine (lives4_any _).mono ?_
  rintro e w1 ⟨rfl, hb1⟩
  have B := hide hb1
  clear hb1
  go_wp2_with fail
  refine (few_any (H.out.below B.out)).mono ?_
  rintro e w2 ⟨rfl, hb2⟩
  replace B := hide (bOn B.out hb2)
  clear hb2
  go_wp2
  clear hf
  have HG : Hid (w.heap.size ≤ w2.heap.size) := B.out.size
  have W := hide (Wtr.new w2 28)
  replace B := hide (bAl (o := (.cells #[.slice none 0 0] 28)) B.out)
  generalize w2.alloc (.cells #[.slice none 0 0] 28) = w3 at *
  generalize w2.heap.size = g at *
  go_loopg [21] n (fun gk t21 wr => ∃ (k : Nat) (ao' : Option Addr) (cap' : Nat), gk + k = n ∧ t21 = .int .i64 k ∧ Wtr wr g ao' cap' (encs t k) ∧ Below w.heap.size w wr)
  case atStart => exact ⟨0, none, 0, by omega, rfl, W.out, B.out⟩
  case round =>
    clear B W
    obtain ⟨k, ao', cap', hk, rfl, hw, hb⟩ := hrel
    have B := hide hb; have W := hide hw; have HK := hide hk
    clear hb hw hk
    by_cases hlt : k < n
    · have hki : (k : Int) < (n : Int) := by omega
      obtain ⟨b, off, rfl, hbl, hc⟩ := H.out.here (by omega)
      have R0 : Hid (wr.rangeAt b (off + k * 41) (itmV (t k))) := fun j v hv => (B.out.cell (p := ⟨b, off + k * 41 + j, none⟩) hbl).trans (hc k hlt j v hv)
      clear hc
      go_wp2_with (refine wpList_load_mid rfl 35 _ rfl b (off + k * 41) rfl (itmV (t k)) _ R0.out Try.underlying35 rfl (info_itm _) ?_)
      rw [storing_new wr _ 35 (itmV (t k)) (by rw [itmV_length]; rfl) (itmV_one _)]
      obtain ⟨V, B2⟩ := copied wr (t k)
      have OK := hide (H.out.ok k)
      have HL := hide (HFEW.out.2 k hlt)
      have BL := hide (H.out.bl k hlt)
      have HE : Hid (encs t (k + 1) = encs t k ++ enc (t k)) := rfl
      have hel := encs_length HFEW.out.2 k (by omega)
      have S : Hid (WSt w ((wr.alloc (.cells #[.int .u8 0, .int .u64 0, .int .u64 0, .int .u64 0, .int .u64 0, .int .u64 0, .int .u8 0, .int .u8 0, .int .u8 0, .int .u8 0, .int .u8 0, .int .u8 0, .int .u8 0, .int .u8 0, .int .u8 0, .int .u8 0, .int .u8 0, .int .u8 0, .int .u8 0, .int .u8 0, .int .u8 0, .int .u8 0, .int .u8 0, .int .u8 0, .int .u8 0, .int .u8 0, .int .u8 0, .int .u8 0, .int .u8 0, .int .u8 0, .int .u8 0, .int .u8 0, .int .u8 0, .int .u8 0, .int .u8 0, .int .u8 0, .int .u8 0, .int .u8 0, .slice none 0 0, .int .i64 0, .int .i64 0] 35)).setCells wr.heap.size 0 (itmV (t k))) g ao' cap' (encs t k) wr.heap.size (t k)) := ⟨W.out.after B2 rfl, V, by have := W.out.lt; omega, fun e => by have := W.out.row _ e; omega, HG.out, bOn B.out B2⟩
      clear V B2 R0 W B
      generalize (wr.alloc (.cells #[.int .u8 0, .int .u64 0, .int .u64 0, .int .u64 0, .int .u64 0, .int .u64 0, .int .u8 0, .int .u8 0, .int .u8 0, .int .u8 0, .int .u8 0, .int .u8 0, .int .u8 0, .int .u8 0, .int .u8 0, .int .u8 0, .int .u8 0, .int .u8 0, .int .u8 0, .int .u8 0, .int .u8 0, .int .u8 0, .int .u8 0, .int .u8 0, .int .u8 0, .int .u8 0, .int .u8 0, .int .u8 0, .int .u8 0, .int .u8 0, .int .u8 0, .int .u8 0, .int .u8 0, .int .u8 0, .int .u8 0, .int .u8 0, .int .u8 0, .int .u8 0, .slice none 0 0, .int .i64 0, .int .i64 0] 35)).setCells wr.heap.size 0 (itmV (t k)) = w4 at *
      generalize wr.heap.size = gx at *
      generalize t k = T at *
      generalize encs t k = l at *
      obtain ⟨k0, k1⟩ := OK.out.kd
      obtain ⟨x0, x1⟩ := OK.out.x
      replace S := hide (S.out.after (bMe w4).drew)
      have hwr : IntKind.u32.wrap T.x = T.x % 4294967296 := by rw [IntKind.wrap_u32]
      have uh := Try.underlying33
      have ih := info_hsh T.h
      have lh := rowV_length 32 T.h
      have oh := rowV_one 32 T.h
      go_wp2
      go_region_held3 (fun w' => w'.cell? ⟨gx, 0, none⟩ = some (.int .u8 T.kd) ∧ w'.cell? ⟨gx, 1, none⟩ = some (.int .u64 T.x) ∧ w'.cell? ⟨gx, 2, none⟩ = some (.int .u64 (lm T.a 0)) ∧ w'.cell? ⟨gx, 3, none⟩ = some (.int .u64 (lm T.a 1)) ∧ w'.cell? ⟨gx, 4, none⟩ = some (.int .u64 (lm T.a 2)) ∧ w'.cell? ⟨gx, 5, none⟩ = some (.int .u64 (lm T.a 3)) ∧ w'.rangeAt gx 6 (rowV 32 T.h) ∧ w'.cell? ⟨gx, 38, none⟩ = some (.slice T.bo T.bl.length T.bc)) (exact heldI S.out.itm)
        (first
          | (go_at_call 8; refine (u8_any S.out.wtr _ (by omega) (by omega) (by omega)).mono ?_; rintro e w5 ⟨rfl, ao2, cap2, hw5, hr5⟩; replace S := hide (S.out.wrote hw5 hr5); clear hw5 hr5)
          | (go_at_call 10; refine (u32_any S.out.wtr _ (by omega) (by omega) (by simp only [List.length_append, be_length]; omega)).mono ?_; rintro e w6 ⟨rfl, ao3, cap3, hw5, hr5⟩; replace S := hide (S.out.wrote hw5 hr5); clear hw5 hr5)
          | (go_at_call 11; refine (u64_any S.out.wtr _ (by simp only [List.length_append, be_length]; omega)).mono ?_; rintro e w7 ⟨rfl, ao4, cap4, hw5, hr5⟩; replace S := hide (S.out.wrote hw5 hr5); clear hw5 hr5)
          | (go_at_call 12; refine (wint_any S.out.wtr T.a OK.out.a (by simp only [List.length_append, be_length]; omega)).mono ?_; rintro e w8 ⟨rfl, ao5, cap5, hw5, hr5⟩; replace S := hide (S.out.wrote hw5 hr5); clear hw5 hr5)
          | (go_at_call 14; refine (whash_any S.out.wtr T.h (by simp only [List.length_append, be_length, b32_length]; omega)).mono ?_; rintro e w9 ⟨rfl, ao6, cap6, hw5, hr5⟩; replace S := hide (S.out.wrote hw5 hr5); clear hw5 hr5)
          | (go_at_call 15; refine (raw_any S.out.wtr T.bo T.bc T.bl (BL.out.below S.out.below) OK.out.bo (by have := HL.out; simp only [List.length_append, be_length, b32_length, List.length_map, List.length_range]; omega)).mono ?_; rintro e w10 ⟨rfl, ao7, cap7, hw5, hr5⟩; replace S := hide (S.out.wrote hw5 hr5); clear hw5 hr5))
      all_goals
        go_wp2
        go_roundg (n - k - 1)
        case measure => have := HK.out; omega
        case rel =>
          refine ⟨k + 1, ao7, cap7, by omega, by go_num, ?_, S.out.below⟩
          rw [HE.out]
          have := S.out.wtr
          simp only [List.append_assoc] at this
          exact this
    · obtain rfl : k = n := by have := HK.out; omega
      have hel := encs_length HFEW.out.2 k (by omega)
      go_wp2_with fail
      refine (wbytes_any W.out (by omega)).mono ?_
      rintro e w4 ⟨v, rfl, hv, hb⟩
      obtain ⟨bo, bc, rfl, _, _, ha⟩ := hv.cell
      have A := hide ha
      have N : Hid (bo = none → bc = 0) := fun e => by
        subst e
        rcases hv.2 with ⟨e, _⟩ | ⟨g', cap', cur, e, _⟩
        · simp at e; exact e.2
        · simp at e
      replace B := hide (bOn B.out hb)
      clear hv hb ha W
      go_wp2_with fail
      refine (rof_any bo bc (encs t k) A.out N.out (by omega)).mono ?_
      rintro e w5 ⟨gr, rb, rfl, hr, hlow, _, hb⟩
      rw [encs_rest t k k (Nat.le_refl _), Nat.sub_self] at hr
      have HLOW : Hid (w.heap.size ≤ gr) := Nat.le_trans B.out.size hlow
      replace B := hide (bOn B.out hb)
      have R : Hid (Rdr w5 gr rb (rest t k k) 0) := hr
      clear hr hlow hb A N
      go_wp2
      go_loopg [51] k (fun gk t51 wr => ∃ j : Nat, gk + j = k ∧ t51 = .int .i64 j ∧ Rdr wr gr rb (rest t k (k - j)) 0 ∧ Below w.heap.size w wr)
      case atStart => exact ⟨0, by omega, rfl, R.out, B.out⟩
      case round =>
        clear B R
        obtain ⟨j, hj, rfl, hr, hb⟩ := hrel
        have B := hide hb; have R := hide hr; have HJ := hide hj
        clear hb hr hj
        by_cases hltj : j < k
        · have hki : (j : Int) < (k : Int) := by omega
          obtain ⟨b, off, rfl, hbl, hc⟩ := H.out.here (by omega)
          have R0 : Hid (wr.rangeAt b (off + j * 41) (itmV (t j))) := fun i v hv => (B.out.cell (p := ⟨b, off + j * 41 + i, none⟩) hbl).trans (hc j hltj i v hv)
          clear hc
          go_wp2_with (refine wpList_load_mid rfl 35 _ rfl b (off + j * 41) rfl (itmV (t j)) _ R0.out Try.underlying35 rfl (info_itm _) ?_)
          rw [storing_new wr _ 35 (itmV (t j)) (by rw [itmV_length]; rfl) (itmV_one _)]
          obtain ⟨V, B2⟩ := copied wr (t j)
          have OK := hide (H.out.ok j)
          have HL := hide (HFEW.out.2 j hltj)
          have BL := hide (H.out.bl j hltj)
          have HBY := hide (rest_byt H.out.ok k (k - j - 1))
          have HE : Hid (rest t k (k - j) = enc (t j) ++ rest t k (k - j - 1)) := by
            obtain ⟨m, hm⟩ : ∃ m, k - j = m + 1 := ⟨k - j - 1, by omega⟩
            rw [hm]
            show enc (t (k - 1 - m)) ++ rest t k m = enc (t j) ++ rest t k (m + 1 - 1)
            rw [show k - 1 - m = j by omega]; rfl
          replace R := R.out
          rw [HE.out] at R
          have S : Hid (RSt w ((wr.alloc (.cells #[.int .u8 0, .int .u64 0, .int .u64 0, .int .u64 0, .int .u64 0, .int .u64 0, .int .u8 0, .int .u8 0, .int .u8 0, .int .u8 0, .int .u8 0, .int .u8 0, .int .u8 0, .int .u8 0, .int .u8 0, .int .u8 0, .int .u8 0, .int .u8 0, .int .u8 0, .int .u8 0, .int .u8 0, .int .u8 0, .int .u8 0, .int .u8 0, .int .u8 0, .int .u8 0, .int .u8 0, .int .u8 0, .int .u8 0, .int .u8 0, .int .u8 0, .int .u8 0, .int .u8 0, .int .u8 0, .int .u8 0, .int .u8 0, .int .u8 0, .int .u8 0, .slice none 0 0, .int .i64 0, .int .i64 0] 35)).setCells wr.heap.size 0 (itmV (t j))) gr rb (enc (t j) ++ rest t k (k - j - 1)) wr.heap.size (t j)) := ⟨R.after B2 rfl, V, by have := R.lt.1; omega, HLOW.out, bOn B.out B2⟩
          clear V B2 R0 R B HE
          generalize (wr.alloc (.cells #[.int .u8 0, .int .u64 0, .int .u64 0, .int .u64 0, .int .u64 0, .int .u64 0, .int .u8 0, .int .u8 0, .int .u8 0, .int .u8 0, .int .u8 0, .int .u8 0, .int .u8 0, .int .u8 0, .int .u8 0, .int .u8 0, .int .u8 0, .int .u8 0, .int .u8 0, .int .u8 0, .int .u8 0, .int .u8 0, .int .u8 0, .int .u8 0, .int .u8 0, .int .u8 0, .int .u8 0, .int .u8 0, .int .u8 0, .int .u8 0, .int .u8 0, .int .u8 0, .int .u8 0, .int .u8 0, .int .u8 0, .int .u8 0, .int .u8 0, .int .u8 0, .slice none 0 0, .int .i64 0, .int .i64 0] 35)).setCells wr.heap.size 0 (itmV (t j)) = w6 at *
          generalize wr.heap.size = gx at *
          generalize hTT : t j = T at *
          have HTT := hide hTT
          clear hTT
          obtain ⟨q, hq⟩ : ∃ q, rest t k (k - j - 1) = q := ⟨_, rfl⟩
          rw [hq] at S HBY
          have HQ := hide hq
          have hql : q.length ≤ 6000 := by have := rest_length HFEW.out.2 (k - j - 1) (by omega); rw [hq] at this; omega
          clear hq
          have y5 := hide (OK.out.bl.app HBY.out)
          have y4 := hide ((map_byt OK.out.h 32).app y5.out)
          have y3 := hide ((map_byt (bt_bd T.a) 32).app y4.out)
          have y2 := hide ((pre_byt T.x 8 8).app y3.out)
          have y1 := hide ((pre_byt (T.x % 4294967296) 4 4).app y2.out)
          have y0 := hide ((pre_byt T.kd 1 1).app y1.out)
          have S0 : Hid (RSt w w6.drew gr rb (be T.kd 1 ++ (be (T.x % 4294967296) 4 ++ (be T.x 8 ++ (b32 T.a ++ ((List.range 32).map T.h ++ (T.bl ++ q)))))) gx T) := by
            have := S.out.after (bMe w6).drew
            unfold enc at this
            simp only [List.append_assoc] at this
            exact this
          clear S
          obtain ⟨k0, k1⟩ := OK.out.kd
          obtain ⟨x0, x1⟩ := OK.out.x
          have hwr : IntKind.u32.wrap T.x = T.x % 4294967296 := by rw [IntKind.wrap_u32]
          have uh := Try.underlying33
          have ih := info_hsh T.h
          have lh := rowV_length 32 T.h
          have oh := rowV_one 32 T.h
          have sh := sameH_self T.h
          have si : same4 (lm T.a 0) (lm T.a 1) (lm T.a 2) (lm T.a 3) (lm T.a 0) (lm T.a 1) (lm T.a 2) (lm T.a 3) = true := by simp [same4]
          go_wp2
          go_region_held_law (fun w' => w'.cell? ⟨gx, 0, none⟩ = some (.int .u8 T.kd) ∧ w'.cell? ⟨gx, 1, none⟩ = some (.int .u64 T.x) ∧ w'.cell? ⟨gx, 2, none⟩ = some (.int .u64 (lm T.a 0)) ∧ w'.cell? ⟨gx, 3, none⟩ = some (.int .u64 (lm T.a 1)) ∧ w'.cell? ⟨gx, 4, none⟩ = some (.int .u64 (lm T.a 2)) ∧ w'.cell? ⟨gx, 5, none⟩ = some (.int .u64 (lm T.a 3)) ∧ w'.rangeAt gx 6 (rowV 32 T.h) ∧ w'.cell? ⟨gx, 38, none⟩ = some (.slice T.bo T.bl.length T.bc) ∧ (convert 26 9 (.slice T.bo T.bl.length T.bc)).run Try.prog w' = .ok (.string (strOfNums T.bl)) w') (exact heldJ S0.out.itm (BL.out.below S0.out.below))
            (first
              | (go_at_call 19; refine (ru8_any S0.out.rdr y0.out).mono ?_; rintro e w7 ⟨v, rfl, hr⟩; obtain ⟨e1, r1, r2⟩ := hr.app (be_length _ _); rw [bval_be (by omega) (by omega)] at e1; subst e1; replace S0 := hide (S0.out.read r1 r2); clear hr r1 r2)
              | (go_at_call 21; refine (ru32_any S0.out.rdr y1.out).mono ?_; rintro e w8 ⟨v, rfl, hr⟩; obtain ⟨e1, r1, r2⟩ := hr.app (be_length _ _); rw [bval_be (by omega) (by omega)] at e1; subst e1; replace S0 := hide (S0.out.read r1 r2); clear hr r1 r2)
              | (go_at_call 22; refine (ru64_any S0.out.rdr y2.out).mono ?_; rintro e w9 ⟨v, rfl, hr⟩; obtain ⟨e1, r1, r2⟩ := hr.app (be_length _ _); rw [bval_be (by omega) (by omega)] at e1; subst e1; replace S0 := hide (S0.out.read r1 r2); clear hr r1 r2)
              | (go_at_call 23; refine (rint_any S0.out.rdr y3.out).mono ?_; rintro e w10 ⟨v, rfl, hr⟩; obtain ⟨e1, r1, r2⟩ := hr.app OK.out.a; subst e1; replace S0 := hide (S0.out.read r1 r2); clear hr r1 r2)
              | (go_at_call 25; refine (rhash_any S0.out.rdr).mono ?_; rintro e w11 ⟨f, rfl, hr⟩; obtain ⟨e1, r1, r2⟩ := hr.app (by simp); rw [rowV_congr (f := f) (g := T.h) (n := 32) (fun j hj => by rw [e1 j]; simp [hj])]; replace S0 := hide (S0.out.read r1 r2); clear hr r1 r2 e1)
              | (go_at_call 26; refine (rraw_any S0.out.rdr _ (by omega) (by have := HL.out; omega) (by have := HL.out; rw [List.length_append]; omega)).mono ?_; rintro e w12 ⟨v, l', B', rfl, hv, _, hr⟩; obtain ⟨e1, r1, r2⟩ := hr.app (by simp); subst e1; obtain ⟨so, sc, rfl, _, _, ha⟩ := hv.cell; have hcv := ha.str sc; replace S0 := hide (S0.out.read r1 r2); clear hr r1 r2 hv ha))
          all_goals
            go_wp2
            go_roundg (k - j - 1)
            case measure => have := HJ.out; omega
            case rel => exact ⟨j + 1, by omega, by go_num, by rw [show k - (j + 1) = k - j - 1 by omega, HQ.out]; exact S0.out.rdr, S0.out.below⟩
        · obtain rfl : j = k := by have := HJ.out; omega
          have R1 : Hid (Rdr wr gr rb [] 0) := by have := R.out; rw [Nat.sub_self] at this; exact this
          clear R
          go_wp2_with fail
          refine (end_any R1.out).mono ?_
          rintro e w7 ⟨rfl, rfl⟩
          have he0 : endOf [] 0 = 0 := rfl
          go_wp2_with fail
          refine (left_any R1.out).mono ?_
          rintro e w8 ⟨rfl, rfl⟩
          go_wp2
          go_ret
          exact ⟨rfl, B.out⟩
theorem packBack_walk (ao : Option Addr) (n cap : Nat) (t : Nat → Itm) (w : World) (h : Its w ao n cap t) :
    Calls Try.prog 5 #[.slice ao n cap] w fun e w' => e = .returned (.bool true) ∧ Below w.heap.size w w' := by
  cases hf : fewB n t
  · exact packBack_long ao n cap t w h hf
  · exact packBack_part ao n cap t w h hf
end Go.Proofs.Ytnhgadnmppjdeaa
