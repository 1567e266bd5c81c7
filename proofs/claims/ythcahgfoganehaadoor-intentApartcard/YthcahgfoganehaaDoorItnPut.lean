/- Contracts of intent.Put and intent.Bytes over this translation. -/
import Derived.Test.YthcahgfoganehaaDoorItn
import Derived.Deep.RegionHeld3
namespace Go.Proofs.YthcahgfoganehaaDoor
open Go.RowKit Go.Lib
attribute [local go_sem] setCell_drewN alloc_drewN

/-- What stands while an intent is written: the writer, the box. -/
structure PS7 (w0 w : World) (g : Nat) (ao : Option Addr) (gb : Nat) (x : Itn) (l : List Int) (ao' : Option Addr) (cap' : Nat) : Prop where
  wtr : Wtr w g ao' cap' l
  box : Bx w gb x.i x.t x.o (lm x.a 0) (lm x.a 1) (lm x.a 2) (lm x.a 3)
  wrote : Wrote g ao ao' w0 w
  ne : gb ≠ g
  row : blk ao' ≠ some gb
theorem PS7.next {w0 w w' : World} {g gb : Nat} {ao ao' ao2 : Option Addr} {x : Itn} {l l2 : List Int} {cap' cap2 : Nat} (h : PS7 w0 w g ao gb x l ao' cap') (hw : Wtr w' g ao2 cap2 l2) (hr : Wrote g ao' ao2 w w') : PS7 w0 w' g ao gb x l2 ao2 cap2 :=
  ⟨hw, h.box.wrote hr h.ne h.row, h.wrote.trans hr, h.ne, fun e => by
    rcases hr.own gb e with e | e
    · exact h.row e
    · have := h.box.lt; omega⟩
theorem PS7.drew {w0 w : World} {g gb : Nat} {ao ao' : Option Addr} {x : Itn} {l : List Int} {cap' : Nat} (h : PS7 w0 w g ao gb x l ao' cap') : PS7 w0 w.drew g ao gb x l ao' cap' :=
  ⟨h.wtr.after (bMe w).drew rfl, h.box.after (bMe w).drew rfl, h.wrote.trans (Wrote.of (bMe w).drew), h.ne, h.row⟩
set_option maxHeartbeats 4000000 in
theorem put_any {w : World} {g cap : Nat} {ao : Option Addr} {l : List Int} (h : Wtr w g ao cap l) (x : Itn) (hx : x.Ok) (hl : l.length ≤ 900000) :
    Calls Tryd.prog 17 #[.pointer (some ⟨g, 0, none⟩), itnV x] w fun e w' => e = .returned (.tuple #[]) ∧ ∃ ao' cap', Wtr w' g ao' cap' (l ++ ibytes x) ∧ Wrote g ao ao' w w' := by
  have X0 : Hid (PS7 w (w.alloc (.cells #[.int .u32 x.i, .int .u8 x.t, .int .u8 x.o, .int .u64 (lm x.a 0), .int .u64 (lm x.a 1), .int .u64 (lm x.a 2), .int .u64 (lm x.a 3)] 27)) g ao w.heap.size x l ao cap) :=
    ⟨h.past _, Bx.new w _ _ _ _ _ _ _ _ rfl, Wrote.of (bAl (bMe w)), by have := h.lt; omega, fun e => by have := (h.row _ e).2; omega⟩
  have HX := hide hx
  have HL := hide hl
  clear h hx hl
  go_enter Tryd.func17, Tryd.ntmps17
  go_wp2
  generalize w.alloc (.cells #[.int .u32 x.i, .int .u8 x.t, .int .u8 x.o, .int .u64 (lm x.a 0), .int .u64 (lm x.a 1), .int .u64 (lm x.a 2), .int .u64 (lm x.a 3)] 27) = w1 at *
  generalize w.heap.size = gb at *
  have HY := hide X0.out.drew
  clear X0
  go_region_held3 (fun w' => w'.cell? ⟨gb, 0, none⟩ = some (.int .u32 x.i) ∧ w'.cell? ⟨gb, 1, none⟩ = some (.int .u8 x.t) ∧ w'.cell? ⟨gb, 2, none⟩ = some (.int .u8 x.o) ∧ w'.cell? ⟨gb, 3, none⟩ = some (.int .u64 (lm x.a 0)) ∧ w'.cell? ⟨gb, 4, none⟩ = some (.int .u64 (lm x.a 1)) ∧ w'.cell? ⟨gb, 5, none⟩ = some (.int .u64 (lm x.a 2)) ∧ w'.cell? ⟨gb, 6, none⟩ = some (.int .u64 (lm x.a 3)))
    (exact ⟨HY.out.box.c0, HY.out.box.c1, HY.out.box.c2, HY.out.box.c3, HY.out.box.c4, HY.out.box.c5, HY.out.box.c6⟩)
    (first
      | (go_at_call 31; refine (u32_any HY.out.wtr x.i HX.out.i.1 HX.out.i.2 (by have := HL.out; omega)).mono ?_; rintro e w2 ⟨rfl, ao2, cap2, h2, r2⟩; replace HY := hide (HY.out.next h2 r2); clear h2 r2)
      | (go_at_call_of 30 (Value.int .u8 x.t); refine (u8_any HY.out.wtr x.t HX.out.t.1 HX.out.t.2 (by have := HL.out; simp [be_length]; omega)).mono ?_; rintro e w2 ⟨rfl, ao2, cap2, h2, r2⟩; replace HY := hide (HY.out.next h2 r2); clear h2 r2)
      | (go_at_call_of 30 (Value.int .u8 x.o); refine (u8_any HY.out.wtr x.o HX.out.o.1 HX.out.o.2 (by have := HL.out; simp [be_length]; omega)).mono ?_; rintro e w2 ⟨rfl, ao2, cap2, h2, r2⟩; replace HY := hide (HY.out.next h2 r2); clear h2 r2)
      | (go_at_call 33; refine (wint_any HY.out.wtr x.a HX.out.a (by have := HL.out; simp [be_length]; omega)).mono ?_; rintro e w2 ⟨rfl, ao2, cap2, h2, r2⟩; replace HY := hide (HY.out.next h2 r2); clear h2 r2))
  go_wp2
  go_end0
  refine ⟨rfl, ao2, cap2, ?_, HY.out.wrote⟩
  have := HY.out.wtr
  unfold ibytes
  simpa [List.append_assoc] using this
/-- A new row of bytes, of an intent's. -/
theorem ibytes_any (x : Itn) (hx : x.Ok) (w : World) :
    Calls Tryd.prog 6 #[itnV x] w fun e w' => ∃ v, e = .returned v ∧ Bs w' w.heap.size v (ibytes x) ∧ Below w.heap.size w w' := by
  have HX := hide hx
  clear hx
  go_enter Tryd.func6, Tryd.ntmps6
  go_wp2_with fail
  have B : Hid (Below w.heap.size w (w.alloc (.cells #[.int .u32 x.i, .int .u8 x.t, .int .u8 x.o, .int .u64 (lm x.a 0), .int .u64 (lm x.a 1), .int .u64 (lm x.a 2), .int .u64 (lm x.a 3)] 27))) := bAl (bMe w)
  have hz : (w.alloc (.cells #[.int .u32 x.i, .int .u8 x.t, .int .u8 x.o, .int .u64 (lm x.a 0), .int .u64 (lm x.a 1), .int .u64 (lm x.a 2), .int .u64 (lm x.a 3)] 27)).heap.size = w.heap.size + 1 := by simp
  generalize w.alloc (.cells #[.int .u32 x.i, .int .u8 x.t, .int .u8 x.o, .int .u64 (lm x.a 0), .int .u64 (lm x.a 1), .int .u64 (lm x.a 2), .int .u64 (lm x.a 3)] 27) = w1 at *
  have W := hide (Wtr.new w1 44)
  replace B := hide (bAl (o := .cells #[.slice none 0 0] 44) B.out)
  rw [hz] at W
  clear hz
  generalize w1.alloc (.cells #[.slice none 0 0] 44) = w2 at *
  refine (put_any W.out x HX.out (by simp)).mono ?_
  rintro e w3 ⟨rfl, ao2, cap2, h2, r2⟩
  have W2 := hide h2
  replace B := hide (r2.below B.out (by omega) (fun k hk => by simp [blk] at hk))
  clear h2 r2 W
  rw [List.nil_append] at W2
  go_wp2_with fail
  refine (wbytes_any W2.out (by rw [ibytes_length]; omega)).mono ?_
  rintro e w4 ⟨v, rfl, hv, hb⟩
  have F := hide (hv.mono B.out.size)
  replace B := hide (bOn B.out hb)
  clear hv hb
  go_wp2
  go_ret
  exact ⟨v, rfl, F.out, B.out⟩
end Go.Proofs.YthcahgfoganehaaDoor
