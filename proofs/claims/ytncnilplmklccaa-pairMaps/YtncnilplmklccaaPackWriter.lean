/- Contracts of pack.Writer's methods over this translation. -/
import Derived.Test.YtncnilplmklccaaPackBase
namespace Go.Proofs.Ytncnilplmklccaa
open Go.RowKit Go.Lib
attribute [local go_sem] setCell_drewN alloc_drewN

/-- The block of an address. -/
def blk (ao : Option Addr) : Option Nat := ao.map (·.block)
theorem blk_own (ao : Option Addr) (n c : Nat) : (Value.slice ao n c).ownBlock = blk ao := by cases ao <;> rfl
/-- The box g holds a slice of these bytes, in a row of its own that came behind it. -/
structure Wtr (w : World) (g : Nat) (ao : Option Addr) (cap : Nat) (l : List Int) : Prop where
  lt : g < w.heap.size
  cell : w.cell? ⟨g, 0, none⟩ = some (.slice ao l.length cap)
  fr : ∀ o, w.frozen? ⟨g, o, none⟩ = false
  own : Bs w (g + 1) (.slice ao l.length cap) l
/-- Only the box g and its row may have turned; others may have come. -/
structure Wrote (g : Nat) (ao ao' : Option Addr) (w w' : World) : Prop where
  os : w'.os = w.os
  tape : w'.tape = w.tape
  output : w'.output = w.output
  size : w.heap.size ≤ w'.heap.size
  block : ∀ k, k < w.heap.size → k ≠ g → blk ao ≠ some k → w'.heap[k]? = w.heap[k]?
  own : ∀ k, blk ao' = some k → blk ao = some k ∨ w.heap.size ≤ k
theorem Wrote.refl (g : Nat) (ao : Option Addr) (w : World) : Wrote g ao ao w w := ⟨rfl, rfl, rfl, Nat.le_refl _, fun _ _ _ _ => rfl, fun _ h => .inl h⟩
theorem Wrote.trans {g : Nat} {ao bo co : Option Addr} {a b c : World} (h : Wrote g ao bo a b) (k : Wrote g bo co b c) : Wrote g ao co a c := by
  refine ⟨k.os.trans h.os, k.tape.trans h.tape, k.output.trans h.output, Nat.le_trans h.size k.size, fun i hi hne hb => ?_, fun i hi => ?_⟩
  · refine (k.block i (Nat.lt_of_lt_of_le hi h.size) hne fun e => ?_).trans (h.block i hi hne hb)
    rcases h.own i e with e | e
    · exact hb e
    · omega
  · rcases k.own i hi with e | e
    · exact h.own i e
    · exact .inr (Nat.le_trans h.size e)
theorem Wrote.of {g : Nat} {ao : Option Addr} {w w' : World} (h : Below w.heap.size w w') : Wrote g ao ao w w' := ⟨h.os, h.tape, h.output, h.size, fun k hk _ _ => h.block k hk, fun _ e => .inl e⟩
theorem Wrote.below {g : Nat} {ao ao' : Option Addr} {a w w' : World} (h : Wrote g ao ao' w w') (hb : Below a.heap.size a w) (hg : a.heap.size ≤ g) (ho : ∀ k, blk ao = some k → a.heap.size ≤ k) : Below a.heap.size a w' :=
  hb.trans ⟨h.os, h.tape, h.output, h.size, fun k hk => h.block k (Nat.lt_of_lt_of_le hk hb.size) (by omega) (fun e => by have := ho k e; omega)⟩
theorem Wtr.row {w : World} {g cap : Nat} {ao : Option Addr} {l : List Int} (h : Wtr w g ao cap l) : ∀ k, blk ao = some k → g < k ∧ k < w.heap.size := by
  intro k hk
  have := h.own.lt k (by rw [blk_own]; exact hk)
  omega
theorem Wtr.after {w w1 w' : World} {g cap : Nat} {ao : Option Addr} {l : List Int} (h : Wtr w g ao cap l) (hb : Below w1.heap.size w1 w') (e : w1.heap = w.heap) : Wtr w' g ao cap l := by
  have hbl : ∀ k, k < w.heap.size → w'.heap[k]? = w.heap[k]? := fun k hk => by rw [hb.block k (by rw [e]; exact hk), e]
  exact ⟨Nat.lt_of_lt_of_le h.lt (by rw [← e]; exact hb.size), (World.cell?_of_block (w := w) (a := ⟨g, 0, none⟩) (hbl g h.lt)).trans h.cell, fun o => (World.frozen?_of_block (w := w) (a := ⟨g, o, none⟩) (hbl g h.lt)).trans (h.fr o), h.own.of fun k hk => hbl k (h.own.lt k hk).2⟩
theorem Wtr.past {w : World} {g cap : Nat} {ao : Option Addr} {l : List Int} (h : Wtr w g ao cap l) (o : Obj) : Wtr (w.alloc o) g ao cap l := h.after (bAl (bMe w)) rfl
/-- The first bytes of a number of k. -/
def pre (x : Int) (k j : Nat) : List Int := (List.range j).map fun i => x / 2 ^ (8 * (k - 1 - i)) % 256
/-- A number of k bytes, the highest first. -/
def be (x : Int) (k : Nat) : List Int := pre x k k
theorem pre_length (x : Int) (k j : Nat) : (pre x k j).length = j := by simp [pre]
theorem be_length (x : Int) (k : Nat) : (be x k).length = k := pre_length x k k
theorem pre_snoc (x : Int) (k j : Nat) : pre x k (j + 1) = pre x k j ++ [x / 2 ^ (8 * (k - 1 - j)) % 256] := by
  unfold pre; rw [List.range_succ, List.map_append]; rfl
theorem pre_byt (x : Int) (k j : Nat) : Byt (pre x k j) := by
  intro y hy; obtain ⟨i, _, rfl⟩ := List.mem_map.1 hy; omega
theorem one_new (w : World) (x : Int) (t : TypeId) : At (w.alloc (.cells #[.int .u8 x] t)) (some ⟨w.heap.size, 0, none⟩) [x] := by
  refine .inr ⟨_, _, rfl, by simp, fun j hj => ?_⟩
  obtain rfl : j = 0 := by simp at hj; omega
  rw [World.cell?_alloc_at _ _ _ _ rfl]; simp
/-- Behind an append and the store of what came of it. -/
theorem Wtr.put {w w1 w2 : World} {g cap : Nat} {ao : Option Addr} {l l2 : List Int} (h : Wtr w g ao cap l) (hb : Below w.heap.size w w1) {ao' : Option Addr} {cap' : Nat} (hown : Bs w2 (g + 1) (.slice ao' (l ++ l2).length cap') (l ++ l2)) (hg : w1.grownBy w2 (Value.slice ao l.length cap).ownBlock)
    (hn : ∀ k, (Value.slice ao' (l ++ l2).length cap').ownBlock = some k → (Value.slice ao l.length cap).ownBlock = some k ∨ w1.heap.size ≤ k) {n : Nat} (en : n = (l ++ l2).length) :
    Wtr (w2.setCell ⟨g, 0, none⟩ (.slice ao' n cap')) g ao' cap' (l ++ l2) ∧ Wrote g ao ao' w (w2.setCell ⟨g, 0, none⟩ (.slice ao' n cap')) := by
  subst en
  have h1 := h.after hb rfl
  rw [blk_own] at hg hn
  rw [blk_own] at hn
  have hne : some g ≠ blk ao := fun e => by have := (h.row g e.symm).1; omega
  have hc : w2.cell? ⟨g, 0, none⟩ = some (.slice ao l.length cap) := hg.cell h1.cell hne
  have hfz : ∀ o, w2.frozen? ⟨g, o, none⟩ = false := fun o => (World.frozen?_of_block (w := w1) (a := ⟨g, o, none⟩) (hg.block g h1.lt hne)).trans (h1.fr o)
  refine ⟨⟨by have := hg.size; have := h1.lt; simp [World.setCell]; omega, by simp [go_sem, hc], fun o => by simp [go_sem, hfz], ?_⟩, ⟨?_, ?_, ?_, ?_, fun k hk hkg hkb => ?_, fun k hk => ?_⟩⟩
  · exact ownsRow_setCell_below hown (by simp) _
  · exact hg.os.trans hb.os
  · exact hg.tape.trans hb.tape
  · exact hg.output.trans hb.output
  · have := hg.size; have := hb.size; simp [World.setCell]; omega
  · rw [Below.heap_setCell _ _ _ _ hkg, hg.block k (Nat.lt_of_lt_of_le hk hb.size) (fun e => hkb e.symm), hb.block k hk]
  · rcases hn k hk with e | e
    · exact .inl e
    · exact .inr (Nat.le_trans hb.size e)
theorem Wtr.put_facts {w w1 w2 : World} {g cap : Nat} {ao : Option Addr} {l : List Int} (h : Wtr w g ao cap l) (hb : Below w.heap.size w w1) (hg : w1.grownBy w2 (Value.slice ao l.length cap).ownBlock) :
    w2.cell? ⟨g, 0, none⟩ = some (.slice ao l.length cap) ∧ w2.frozen? ⟨g, 0, none⟩ = false := by
  have h1 := h.after hb rfl
  rw [blk_own] at hg
  have hne : some g ≠ blk ao := fun e => by have := (h.row g e.symm).1; omega
  exact ⟨hg.cell h1.cell hne, (World.frozen?_of_block (w := w1) (a := ⟨g, 0, none⟩) (hg.block g h1.lt hne)).trans (h1.fr 0)⟩

theorem num_eq {k : IntKind} {a b : Int} (h : a = b) : Value.int k a = .int k b := by rw [h]
set_option maxHeartbeats 4000000 in
theorem number_any {w : World} {g cap : Nat} {ao : Option Addr} {l : List Int} (h : Wtr w g ao cap l) (x : Int) (k : Nat) (hk : k ≤ 8) (hl : l.length ≤ 1000000) :
    Calls Try.prog 51 #[.pointer (some ⟨g, 0, none⟩), .int .u64 x, .int .i64 k] w fun e w' => e = .returned (.pointer (some ⟨g, 0, none⟩)) ∧ ∃ ao' cap', Wtr w' g ao' cap' (l ++ be x k) ∧ Wrote g ao ao' w w' := by
  have H := hide h
  clear h
  have hki : (k : Int) ≤ 8 := by omega
  go_enter Try.func51, Try.ntmps51
  go_wp2
  go_loopw [7] (fun t wr => ∃ (j : Nat) (ao' : Option Addr) (cap' : Nat), j ≤ k ∧ t = .int .i64 ((k : Int) - 1 - j) ∧ Wtr wr g ao' cap' (l ++ pre x k j) ∧ Wrote g ao ao' w wr) (fun t _ => (intOf t + 1).toNat)
  case atStart => exact ⟨0, ao, cap, by omega, by go_num, by simpa [pre] using H.out, Wrote.refl _ _ _⟩
  case round =>
    obtain ⟨j, ao', cap', hj, rfl, hw, hr⟩ := hrel
    have HW := hide hw; have HR := hide hr
    clear hr
    by_cases hlt : j < k
    · obtain ⟨m, hm⟩ : ∃ m : Nat, k = m + j + 1 := ⟨k - 1 - j, by omega⟩
      have hmi : (k : Int) - 1 - j = (m : Int) := by omega
      rw [hmi]
      have hm8 : (m : Int) ≤ 7 := by omega
      have HL : Hid (l ++ pre x k (j + 1) = (l ++ pre x k j) ++ [x / 2 ^ (8 * m) % 256]) := by
        show _ = _
        rw [pre_snoc, List.append_assoc, show k - 1 - j = m by omega]
      have hll : (l ++ pre x k j).length ≤ 1000008 := by rw [List.length_append, pre_length]; omega
      generalize l ++ pre x k j = L at *
      have hc := hw.cell
      have hf := hw.fr 0
      have hgl := hw.lt
      clear hw
      have hsh : Op.shift .shr .u64 x .i64 (IntKind.i64.wrap (8 * (m : Int))) = pure (.int .u64 (x / 2 ^ (8 * m))) := by
        rw [show IntKind.i64.wrap (8 * (m : Int)) = 8 * (m : Int) by rw [IntKind.wrap_i64]; omega, shift_shr_any _ _ _ _ (by omega)]
        rw [show min (8 * (m : Int)).toNat IntKind.u64.bits = 8 * m by simp [IntKind.bits]; omega]
      have HM := hide hm; have HMI := hide hmi
      clear hm hmi
      have hwr : IntKind.u8.wrap (x / 2 ^ (8 * m)) = x / 2 ^ (8 * m) % 256 := by rw [IntKind.wrap_u8]
      generalize x / 2 ^ (8 * m) = y at *
      go_wp2
      go_region_law (refine step_app rfl (.tmp 18) (.tmp 24) rfl (.slice ao' L.length cap') L [y % 256] _ _ _ (by simp [Act.eval]) (by simp [Act.eval]; rfl) rfl (B := g + 1) (HW.out.own.below (bAl (bMe wr)).drew) ((one_new wr (y % 256) _).of (Nat.le_refl _) (fun _ _ _ => rfl)) (fun e => by simp at e) (by simp; omega) (by have := HW.out.lt; simp; omega) ?_; intro v' w1 hb1 hg1 hn1; obtain ⟨ao2, cap2, rfl, -, -, -⟩ := hb1.cell; obtain ⟨f1, f2⟩ := HW.out.put_facts (bAl (bMe wr)).drew hg1)
      all_goals
        have F := hide (HW.out.put (bAl (bMe wr)).drew hb1 hg1 hn1 (n := L.length + 1) (by simp))
        rw [← HL.out] at F
        clear hb1 hg1 hn1
        go_wp2
        go_roundw
        case rel => exact ⟨j + 1, ao2, cap2, by omega, num_eq (by have := HMI.out; omega), F.out.1, HR.out.trans F.out.2⟩
        case measure => simp [intOf]
    · obtain rfl : j = k := by omega
      have hlt' : (j : Int) - 1 - j = -1 := by omega
      go_wp2
      go_ret
      exact ⟨rfl, ao', cap', HW.out, HR.out⟩

theorem u8_any {w : World} {g cap : Nat} {ao : Option Addr} {l : List Int} (h : Wtr w g ao cap l) (x : Int) (h0 : 0 ≤ x) (h1 : x < 256) (hl : l.length ≤ 1000000) :
    Calls Try.prog 53 #[.pointer (some ⟨g, 0, none⟩), .int .u8 x] w fun e w' => e = .returned (.pointer (some ⟨g, 0, none⟩)) ∧ ∃ ao' cap', Wtr w' g ao' cap' (l ++ be x 1) ∧ Wrote g ao ao' w w' := by
  have H := hide h
  clear h
  go_enter Try.func53, Try.ntmps53
  go_wp2_with fail
  refine (number_any H.out x 1 (by omega) hl).mono ?_
  rintro e w1 ⟨rfl, F⟩
  have HF := hide F
  clear F
  go_wp2
  go_ret
  exact ⟨rfl, HF.out⟩
theorem u32_any {w : World} {g cap : Nat} {ao : Option Addr} {l : List Int} (h : Wtr w g ao cap l) (x : Int) (h0 : 0 ≤ x) (h1 : x < 4294967296) (hl : l.length ≤ 1000000) :
    Calls Try.prog 28 #[.pointer (some ⟨g, 0, none⟩), .int .u32 x] w fun e w' => e = .returned (.pointer (some ⟨g, 0, none⟩)) ∧ ∃ ao' cap', Wtr w' g ao' cap' (l ++ be x 4) ∧ Wrote g ao ao' w w' := by
  have H := hide h
  clear h
  go_enter Try.func28, Try.ntmps28
  go_wp2_with fail
  refine (number_any H.out x 4 (by omega) hl).mono ?_
  rintro e w1 ⟨rfl, F⟩
  have HF := hide F
  clear F
  go_wp2
  go_ret
  exact ⟨rfl, HF.out⟩
theorem u64_any {w : World} {g cap : Nat} {ao : Option Addr} {l : List Int} (h : Wtr w g ao cap l) (x : Int) (hl : l.length ≤ 1000000) :
    Calls Try.prog 32 #[.pointer (some ⟨g, 0, none⟩), .int .u64 x] w fun e w' => e = .returned (.pointer (some ⟨g, 0, none⟩)) ∧ ∃ ao' cap', Wtr w' g ao' cap' (l ++ be x 8) ∧ Wrote g ao ao' w w' := by
  have H := hide h
  clear h
  go_enter Try.func32, Try.ntmps32
  go_wp2_with fail
  refine (number_any H.out x 8 (by omega) hl).mono ?_
  rintro e w1 ⟨rfl, F⟩
  have HF := hide F
  clear F
  go_wp2
  go_ret
  exact ⟨rfl, HF.out⟩
theorem raw_any {w : World} {g cap : Nat} {ao : Option Addr} {l : List Int} (h : Wtr w g ao cap l) (so : Option Addr) (c : Nat) (l2 : List Int) (hs : At w so l2) (hso : so = none → c = 0) (hl : l.length + l2.length ≤ 1000000) :
    Calls Try.prog 30 #[.pointer (some ⟨g, 0, none⟩), .slice so l2.length c] w fun e w' => e = .returned (.pointer (some ⟨g, 0, none⟩)) ∧ ∃ ao' cap', Wtr w' g ao' cap' (l ++ l2) ∧ Wrote g ao ao' w w' := by
  have H := hide h; have HS := hide hs; have HSO := hide hso
  have hc := h.cell
  have hf := h.fr 0
  have hgl := h.lt
  clear h hs hso
  go_enter Try.func30, Try.ntmps30
  go_wp2_with (at_builtin; refine wpList_app rfl _ _ rfl (.slice ao l.length cap) l l2 _ _ _ rfl rfl rfl H.out.own HS.out HSO.out (by omega) (by omega) ?_)
  intro v' w1 hb1 hg1 hn1
  obtain ⟨ao2, cap2, rfl, -, -, -⟩ := hb1.cell
  obtain ⟨f1, f2⟩ := H.out.put_facts (bMe w) hg1
  have F := hide (H.out.put (bMe w) hb1 hg1 hn1 (n := l.length + l2.length) (by simp))
  clear hb1 hg1 hn1
  go_wp2
  go_ret
  exact ⟨rfl, ao2, cap2, F.out.1, F.out.2⟩
/-- A number's 32 bytes. -/
def b32 (a : Int) : List Int := (List.range 32).map (bt a)
theorem b32_length (a : Int) : (b32 a).length = 32 := by simp [b32]
theorem b32_get (a : Int) {j : Nat} (h : j < 32) : (b32 a).getD j 0 = bt a j := by simp [b32, h]
theorem row_at {w : World} {g : Nat} {f : Nat → Int} (h : BRow w g 32 f) : At w (some ⟨g, 0, none⟩) ((List.range 32).map f) := by
  refine .inr ⟨_, _, rfl, h.lt, fun j hj => ?_⟩
  have hj' : j < 32 := by simpa using hj
  rw [Nat.zero_add, h.cell j hj']; simp [hj']
set_option maxHeartbeats 4000000 in
theorem wint_any {w : World} {g cap : Nat} {ao : Option Addr} {l : List Int} (h : Wtr w g ao cap l) (a : Int) (ha : In a) (hl : l.length ≤ 999000) :
    Calls Try.prog 54 #[.pointer (some ⟨g, 0, none⟩), big a] w fun e w' => e = .returned (.pointer (some ⟨g, 0, none⟩)) ∧ ∃ ao' cap', Wtr w' g ao' cap' (l ++ b32 a) ∧ Wrote g ao ao' w w' := by
  have H := hide h; have HA := hide ha
  clear h ha
  go_enter Try.func54, Try.ntmps54
  go_wp2_with fail
  refine (bytes_any a _ HA.out).mono ?_
  rintro e w2 ⟨rfl, hb2⟩
  have B := hide (bOn (bAl (bMe w)) hb2)
  clear hb2
  go_wp2_with fail
  have R0 : BRow (w2.alloc (.cells #[.int .u8 0, .int .u8 0, .int .u8 0, .int .u8 0, .int .u8 0, .int .u8 0, .int .u8 0, .int .u8 0, .int .u8 0, .int .u8 0, .int .u8 0, .int .u8 0, .int .u8 0, .int .u8 0, .int .u8 0, .int .u8 0, .int .u8 0, .int .u8 0, .int .u8 0, .int .u8 0, .int .u8 0, .int .u8 0, .int .u8 0, .int .u8 0, .int .u8 0, .int .u8 0, .int .u8 0, .int .u8 0, .int .u8 0, .int .u8 0, .int .u8 0, .int .u8 0] 123)) w2.heap.size 32 (fun _ => 0) := BRow.new w2 32 123 (g := w2.heap.size) rfl
  rw [R0.storing (P := Try.prog) (bt a)]
  have R := hide (R0.stored (bt a))
  replace B := hide (setCells_below (bAl (o := (.cells #[.int .u8 0, .int .u8 0, .int .u8 0, .int .u8 0, .int .u8 0, .int .u8 0, .int .u8 0, .int .u8 0, .int .u8 0, .int .u8 0, .int .u8 0, .int .u8 0, .int .u8 0, .int .u8 0, .int .u8 0, .int .u8 0, .int .u8 0, .int .u8 0, .int .u8 0, .int .u8 0, .int .u8 0, .int .u8 0, .int .u8 0, .int .u8 0, .int .u8 0, .int .u8 0, .int .u8 0, .int .u8 0, .int .u8 0, .int .u8 0, .int .u8 0, .int .u8 0] 123)) B.out) (b := w2.heap.size) (B.out.size) (rowV 32 (bt a)) 0)
  clear R0
  generalize (w2.alloc (.cells #[.int .u8 0, .int .u8 0, .int .u8 0, .int .u8 0, .int .u8 0, .int .u8 0, .int .u8 0, .int .u8 0, .int .u8 0, .int .u8 0, .int .u8 0, .int .u8 0, .int .u8 0, .int .u8 0, .int .u8 0, .int .u8 0, .int .u8 0, .int .u8 0, .int .u8 0, .int .u8 0, .int .u8 0, .int .u8 0, .int .u8 0, .int .u8 0, .int .u8 0, .int .u8 0, .int .u8 0, .int .u8 0, .int .u8 0, .int .u8 0, .int .u8 0, .int .u8 0] 123)).setCells w2.heap.size 0 (rowV 32 (bt a)) = w3 at *
  generalize w2.heap.size = g5 at *
  go_wp2_with fail
  refine (raw_any (H.out.after B.out rfl) (some ⟨g5, 0, none⟩) 32 (b32 a) (row_at R.out) (fun e => by simp at e) (by rw [b32_length]; omega)).mono ?_
  rintro e w4 ⟨rfl, ao', cap', F, F2⟩
  have HF := hide F; have HF2 := hide ((Wrote.of B.out).trans F2)
  clear F F2
  go_wp2
  go_ret
  exact ⟨rfl, ao', cap', HF.out, HF2.out⟩
theorem hash_new (w : World) (f : Nat → Int) (t : TypeId) {g : Nat} (e : w.heap.size = g) : BRow (w.alloc (.cells (rowV 32 f).toArray t)) g 32 f := by
  subst e
  exact ⟨by simp, fun j hj => by rw [World.cell?_alloc_at _ _ _ _ rfl]; simp [rowV, hj], fun o => World.frozen?_alloc_at _ _ _ _ rfl⟩
theorem fresh_any {w : World} (so : Option Addr) (c : Nat) (l : List Int) (hs : At w so l) (hso : so = none → c = 0) (hl : l.length ≤ 1000000) :
    Calls Try.prog 55 #[.slice so l.length c] w fun e w' => ∃ v, e = .returned v ∧ Bs w' w.heap.size v l ∧ Below w.heap.size w w' := by
  have HS := hide hs; have HSO := hide hso
  clear hs hso
  go_enter Try.func55, Try.ntmps55
  go_wp2_with (at_builtin; refine wpList_app rfl _ _ rfl (.slice none 0 0) [] l _ _ _ rfl rfl rfl (World.ownsRow_nil w w.heap.size _ _) HS.out HSO.out (by simp; omega) (Nat.le_refl _) ?_)
  intro v' w1 hb1 hg1 hn1
  have F : Hid (Bs w1 w.heap.size v' l ∧ Below w.heap.size w w1) := ⟨hb1, (bMe w).grown hg1 (Nat.le_refl _) (fun k e => by cases e)⟩
  clear hb1 hg1 hn1
  go_wp2
  go_ret
  exact ⟨_, rfl, F.out⟩
theorem wbytes_any {w : World} {g cap : Nat} {ao : Option Addr} {l : List Int} (h : Wtr w g ao cap l) (hl : l.length ≤ 1000000) :
    Calls Try.prog 33 #[.pointer (some ⟨g, 0, none⟩)] w fun e w' => ∃ v, e = .returned v ∧ Bs w' w.heap.size v l ∧ Below w.heap.size w w' := by
  have hc := h.cell
  have hgl := h.lt
  have ha : At w ao l ∧ (ao = none → cap = 0) := by
    obtain ⟨ao', cap', e, _, _, ha⟩ := h.own.cell
    simp only [Value.slice.injEq, true_and] at e
    obtain ⟨rfl, rfl⟩ := e
    refine ⟨ha, fun e => ?_⟩
    subst e
    rcases h.own.2 with ⟨e, _⟩ | ⟨g', cap', cur, e, _⟩
    · simp at e; exact e.2
    · simp at e
  have HA := hide ha
  clear h ha
  go_enter Try.func33, Try.ntmps33
  go_wp2_with fail
  refine (fresh_any ao cap l HA.out.1 HA.out.2 hl).mono ?_
  rintro e w1 ⟨v, rfl, F⟩
  have HF := hide F
  clear F
  go_wp2
  go_ret
  exact ⟨_, rfl, HF.out⟩
end Go.Proofs.Ytncnilplmklccaa
