/- Contracts of event.put and event.Bytes over this translation. -/
import Derived.Test.YtajkdbpojeaflaaEvt
import Derived.Test.YtajkdbpojeaflaaPackReader3
import Derived.Deep.RegionHeld3
namespace Go.Proofs.Ytajkdbpojeaflaa
open Go.RowKit Go.Lib
attribute [local go_sem] setCell_drewN alloc_drewN

/-- The 32 bytes of a sum. -/
def h32 (f : Nat → Int) : List Int := (List.range 32).map f
theorem h32_length (f : Nat → Int) : (h32 f).length = 32 := by simp [h32]
/-- An event's bytes. -/
def ebytes (x : Evt) : List Int := be x.k 1 ++ be x.b 8 ++ h32 x.h ++ be x.s 1 ++ be x.t 1 ++ be x.f 1 ++ be x.u 1 ++ b32 x.a ++ b32 x.c ++ be x.n 4
theorem ebytes_length (x : Evt) : (ebytes x).length = 113 := by simp [ebytes, be_length, b32_length, h32_length]
theorem b32_byt9 (a : Int) : Byt (b32 a) := by
  intro y hy; obtain ⟨i, _, rfl⟩ := List.mem_map.1 hy; exact bt_bd a i
theorem ebytes_byt {x : Evt} (hx : x.Ok) : Byt (ebytes x) := by
  have hh : Byt (h32 x.h) := by intro y hy; obtain ⟨i, _, rfl⟩ := List.mem_map.1 hy; exact hx.h i
  exact (((((((((pre_byt _ _ _).app (pre_byt _ _ _)).app hh).app (pre_byt _ _ _)).app (pre_byt _ _ _)).app (pre_byt _ _ _)).app (pre_byt _ _ _)).app (b32_byt9 _)).app (b32_byt9 _)).app (pre_byt _ _ _)
/-- What stands while an event is written: the writer, the box. -/
structure PS9 (w0 w : World) (g : Nat) (ao : Option Addr) (gb : Nat) (x : Evt) (l : List Int) (ao' : Option Addr) (cap' : Nat) : Prop where
  wtr : Wtr w g ao' cap' l
  box : VRow w gb (ec x)
  wrote : Wrote g ao ao' w0 w
  ne : gb ≠ g
  row : blk ao' ≠ some gb
theorem PS9.next {w0 w w' : World} {g gb : Nat} {ao ao' ao2 : Option Addr} {x : Evt} {l l2 : List Int} {cap' cap2 : Nat} (h : PS9 w0 w g ao gb x l ao' cap') (hw : Wtr w' g ao2 cap2 l2) (hr : Wrote g ao' ao2 w w') : PS9 w0 w' g ao gb x l2 ao2 cap2 :=
  ⟨hw, h.box.wrote hr h.ne h.row, h.wrote.trans hr, h.ne, fun e => by
    rcases hr.own gb e with e | e
    · exact h.row e
    · have := h.box.lt; omega⟩
theorem PS9.drew {w0 w : World} {g gb : Nat} {ao ao' : Option Addr} {x : Evt} {l : List Int} {cap' : Nat} (h : PS9 w0 w g ao gb x l ao' cap') : PS9 w0 w.drew g ao gb x l ao' cap' :=
  ⟨h.wtr.after (bMe w).drew rfl, h.box.after (bMe w).drew rfl, h.wrote.trans (Wrote.of (bMe w).drew), h.ne, h.row⟩
theorem VRow.evth {w : World} {g : Nat} {x : Evt} (h : VRow w g (ec x)) : w.rangeAt g 2 (rowV 32 x.h) := by
  intro j v hv
  have hj : j < 32 := by have := (List.getElem?_eq_some_iff.1 hv).1; rwa [rowV_length] at this
  rw [rowV_get hj] at hv
  injection hv with hv
  subst hv
  exact h.cell (2 + j) (ec_hash x hj)
theorem held9a {w : World} {g : Nat} {x : Evt} (h : VRow w g (ec x)) : w.cell? ⟨g, 0, none⟩ = some (.int .u8 x.k) ∧ w.cell? ⟨g, 1, none⟩ = some (.int .u64 x.b) ∧ w.rangeAt g 2 (rowV 32 x.h) := ⟨h.cell 0 rfl, h.cell 1 rfl, h.evth⟩
theorem held9b {w : World} {g : Nat} {x : Evt} (h : VRow w g (ec x)) : w.cell? ⟨g, 34, none⟩ = some (.int .u8 x.s) ∧ w.cell? ⟨g, 35, none⟩ = some (.int .u8 x.t) ∧ w.cell? ⟨g, 36, none⟩ = some (.int .u8 x.f) ∧ w.cell? ⟨g, 37, none⟩ = some (.int .u8 x.u) := ⟨h.cell 34 (ec_tail x 0), h.cell 35 (ec_tail x 1), h.cell 36 (ec_tail x 2), h.cell 37 (ec_tail x 3)⟩
theorem held9c {w : World} {g : Nat} {x : Evt} (h : VRow w g (ec x)) : w.cell? ⟨g, 38, none⟩ = some (.int .u64 (lm x.a 0)) ∧ w.cell? ⟨g, 39, none⟩ = some (.int .u64 (lm x.a 1)) ∧ w.cell? ⟨g, 40, none⟩ = some (.int .u64 (lm x.a 2)) ∧ w.cell? ⟨g, 41, none⟩ = some (.int .u64 (lm x.a 3)) ∧ w.cell? ⟨g, 42, none⟩ = some (.int .u64 (lm x.c 0)) ∧ w.cell? ⟨g, 43, none⟩ = some (.int .u64 (lm x.c 1)) ∧ w.cell? ⟨g, 44, none⟩ = some (.int .u64 (lm x.c 2)) ∧ w.cell? ⟨g, 45, none⟩ = some (.int .u64 (lm x.c 3)) ∧ w.cell? ⟨g, 46, none⟩ = some (.int .u32 x.n) :=
  ⟨h.cell 38 (ec_tail x 4), h.cell 39 (ec_tail x 5), h.cell 40 (ec_tail x 6), h.cell 41 (ec_tail x 7), h.cell 42 (ec_tail x 8), h.cell 43 (ec_tail x 9), h.cell 44 (ec_tail x 10), h.cell 45 (ec_tail x 11), h.cell 46 (ec_tail x 12)⟩
set_option maxRecDepth 100000 in
set_option maxHeartbeats 4000000 in
theorem put9_any {w : World} {g cap : Nat} {ao : Option Addr} {l : List Int} (h : Wtr w g ao cap l) (x : Evt) (hx : x.Ok) (hl : l.length ≤ 900000) :
    Calls Try.prog 19 #[.pointer (some ⟨g, 0, none⟩), evV x] w fun e w' => e = .returned (.tuple #[]) ∧ ∃ ao' cap', Wtr w' g ao' cap' (l ++ ebytes x) ∧ Wrote g ao ao' w w' := by
  have X0 : Hid (PS9 w (w.alloc (.cells (ec x).toArray 40)) g ao w.heap.size x l ao cap) :=
    ⟨h.past _, VRow.new w _ _, Wrote.of (bAl (bMe w)), by have := h.lt; omega, fun e => by have := (h.row _ e).2; omega⟩
  have HX := hide hx
  have HL := hide hl
  clear h hx hl
  have uh := Try.underlying32
  have ih := info_hsh x.h
  have lh := rowV_length 32 x.h
  have oh := rowV_one 32 x.h
  go_enter Try.func19, Try.ntmps19
  go_wp2
  generalize w.alloc (.cells (ec x).toArray 40) = w1 at *
  generalize w.heap.size = gb at *
  have HY := hide X0.out.drew
  clear X0
  go_region_held3 (fun w' => w'.cell? ⟨gb, 0, none⟩ = some (.int .u8 x.k) ∧ w'.cell? ⟨gb, 1, none⟩ = some (.int .u64 x.b) ∧ w'.rangeAt gb 2 (rowV 32 x.h))
    (exact held9a HY.out.box)
    (first
      | (go_at_call 36; refine (u8_any HY.out.wtr x.k HX.out.k.1 HX.out.k.2 (by have := HL.out; omega)).mono ?_; rintro e w2 ⟨rfl, ao2, cap2, h2, r2⟩; replace HY := hide (HY.out.next h2 r2); clear h2 r2)
      | (go_at_call 37; refine (u64_any HY.out.wtr x.b (by have := HL.out; simp [be_length]; omega)).mono ?_; rintro e w2 ⟨rfl, ao2, cap2, h2, r2⟩; replace HY := hide (HY.out.next h2 r2); clear h2 r2)
      | (go_at_call 38; refine (whash_any HY.out.wtr x.h (by have := HL.out; simp [be_length]; omega)).mono ?_; rintro e w2 ⟨rfl, ao2, cap2, h2, r2⟩; replace HY := hide (HY.out.next h2 r2); clear h2 r2))
  obtain ⟨L1, hL1⟩ : ∃ L1, l ++ be x.k 1 ++ be x.b 8 ++ (List.range 32).map x.h = L1 := ⟨_, rfl⟩
  rw [hL1] at HY
  have HL1 := hide hL1
  have HLL : Hid (L1.length ≤ 900041) := by rw [← HL1.out]; show _ ≤ _; have := HL.out; simp [be_length]; omega
  clear hL1
  go_wp2
  replace HY := hide HY.out.drew
  go_region_held3 (fun w' => w'.cell? ⟨gb, 34, none⟩ = some (.int .u8 x.s) ∧ w'.cell? ⟨gb, 35, none⟩ = some (.int .u8 x.t) ∧ w'.cell? ⟨gb, 36, none⟩ = some (.int .u8 x.f) ∧ w'.cell? ⟨gb, 37, none⟩ = some (.int .u8 x.u))
    (exact held9b HY.out.box)
    (first
      | (go_at_call_of 36 (Value.int .u8 x.s); refine (u8_any HY.out.wtr x.s HX.out.s.1 HX.out.s.2 (by have := HLL.out; omega)).mono ?_; rintro e w2 ⟨rfl, ao2, cap2, h2, r2⟩; replace HY := hide (HY.out.next h2 r2); clear h2 r2)
      | (go_at_call_of 36 (Value.int .u8 x.t); refine (u8_any HY.out.wtr x.t HX.out.t.1 HX.out.t.2 (by have := HLL.out; simp [be_length]; omega)).mono ?_; rintro e w2 ⟨rfl, ao2, cap2, h2, r2⟩; replace HY := hide (HY.out.next h2 r2); clear h2 r2)
      | (go_at_call_of 36 (Value.int .u8 x.f); refine (u8_any HY.out.wtr x.f HX.out.f.1 HX.out.f.2 (by have := HLL.out; simp [be_length]; omega)).mono ?_; rintro e w2 ⟨rfl, ao2, cap2, h2, r2⟩; replace HY := hide (HY.out.next h2 r2); clear h2 r2)
      | (go_at_call_of 36 (Value.int .u8 x.u); refine (u8_any HY.out.wtr x.u HX.out.u.1 HX.out.u.2 (by have := HLL.out; simp [be_length]; omega)).mono ?_; rintro e w2 ⟨rfl, ao2, cap2, h2, r2⟩; replace HY := hide (HY.out.next h2 r2); clear h2 r2))
  go_wp2
  replace HY := hide HY.out.drew
  go_region_held3 (fun w' => w'.cell? ⟨gb, 38, none⟩ = some (.int .u64 (lm x.a 0)) ∧ w'.cell? ⟨gb, 39, none⟩ = some (.int .u64 (lm x.a 1)) ∧ w'.cell? ⟨gb, 40, none⟩ = some (.int .u64 (lm x.a 2)) ∧ w'.cell? ⟨gb, 41, none⟩ = some (.int .u64 (lm x.a 3)) ∧ w'.cell? ⟨gb, 42, none⟩ = some (.int .u64 (lm x.c 0)) ∧ w'.cell? ⟨gb, 43, none⟩ = some (.int .u64 (lm x.c 1)) ∧ w'.cell? ⟨gb, 44, none⟩ = some (.int .u64 (lm x.c 2)) ∧ w'.cell? ⟨gb, 45, none⟩ = some (.int .u64 (lm x.c 3)) ∧ w'.cell? ⟨gb, 46, none⟩ = some (.int .u32 x.n))
    (exact held9c HY.out.box)
    (first
      | (go_at_call_of 39 (Value.agg #[.int .u64 (lm x.a 0), .int .u64 (lm x.a 1), .int .u64 (lm x.a 2), .int .u64 (lm x.a 3)]); refine (wint_any HY.out.wtr x.a HX.out.a (by have := HLL.out; simp [be_length]; omega)).mono ?_; rintro e w2 ⟨rfl, ao2, cap2, h2, r2⟩; replace HY := hide (HY.out.next h2 r2); clear h2 r2)
      | (go_at_call_of 39 (Value.agg #[.int .u64 (lm x.c 0), .int .u64 (lm x.c 1), .int .u64 (lm x.c 2), .int .u64 (lm x.c 3)]); refine (wint_any HY.out.wtr x.c HX.out.c (by have := HLL.out; simp [be_length, b32_length]; omega)).mono ?_; rintro e w2 ⟨rfl, ao2, cap2, h2, r2⟩; replace HY := hide (HY.out.next h2 r2); clear h2 r2)
      | (go_at_call 40; refine (u32_any HY.out.wtr x.n HX.out.n.1 HX.out.n.2 (by have := HLL.out; simp [be_length, b32_length]; omega)).mono ?_; rintro e w2 ⟨rfl, ao2, cap2, h2, r2⟩; replace HY := hide (HY.out.next h2 r2); clear h2 r2))
  go_wp2
  go_end0
  refine ⟨rfl, ao2, cap2, ?_, HY.out.wrote⟩
  have := HY.out.wtr
  rw [← HL1.out] at this
  unfold ebytes h32
  simpa [List.append_assoc] using this
end Go.Proofs.Ytajkdbpojeaflaa
