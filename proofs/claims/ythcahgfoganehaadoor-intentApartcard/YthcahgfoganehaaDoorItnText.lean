/- Contract of sponsionref07.Text over this translation. -/
import Derived.Test.YthcahgfoganehaaDoorItnRef
import Derived.Test.YthcahgfoganehaaDoorRef4
namespace Go.Proofs.YthcahgfoganehaaDoor
open Go.RowKit Go.Lib
attribute [local go_sem] setCell_drewN alloc_drewN

/-- What stands while an intent's text is made. -/
structure TX (w0 w : World) (gb : Nat) (x : Itn) : Prop where
  box : Bx w gb x.i x.t x.o (lm x.a 0) (lm x.a 1) (lm x.a 2) (lm x.a 3)
  below : Below w0.heap.size w0 w
theorem TX.after {w0 w w' : World} {gb : Nat} {x : Itn} (h : TX w0 w gb x) (hb : Below w.heap.size w w') : TX w0 w' gb x := ⟨h.box.after hb rfl, bOn h.below hb⟩
set_option maxHeartbeats 4000000 in
theorem text7_any (x : Itn) (hx : x.Ok) (w : World) :
    Calls Tryd.prog 8 #[itnV x] w fun e w' => e = .returned (.string (strOfNums (ibytes x))) ∧ Below w.heap.size w w' := by
  obtain ⟨i0, i1⟩ := hx.i
  obtain ⟨t0, t1⟩ := hx.t
  obtain ⟨o0, o1⟩ := hx.o
  have HA := hide hx.a
  have wi : IntKind.u64.wrap x.i = x.i := by rw [IntKind.wrap_u64]; omega
  have wt : IntKind.u64.wrap x.t = x.t := by rw [IntKind.wrap_u64]; omega
  have wo : IntKind.u64.wrap x.o = x.o := by rw [IntKind.wrap_u64]; omega
  clear hx
  have z0 : (strOfNums (be x.i 4)).size = 4 := by rw [strOfNums_size, be_length]
  have z1 : (strOfNums (be x.t 1)).size = 1 := by rw [strOfNums_size, be_length]
  have z2 : (strOfNums (be x.o 1)).size = 1 := by rw [strOfNums_size, be_length]
  have z3 : (strOfNums (b32 x.a)).size = 32 := by rw [strOfNums_size, b32_length]
  go_enter Tryd.func8, Tryd.ntmps8
  go_wp2
  have X : Hid (TX w (w.alloc (.cells #[.int .u32 x.i, .int .u8 x.t, .int .u8 x.o, .int .u64 (lm x.a 0), .int .u64 (lm x.a 1), .int .u64 (lm x.a 2), .int .u64 (lm x.a 3)] 27)).drew w.heap.size x) := ⟨(Bx.new w _ _ _ _ _ _ _ _ rfl).after (bMe _).drew rfl, (bAl (bMe w)).drew⟩
  generalize w.alloc (.cells #[.int .u32 x.i, .int .u8 x.t, .int .u8 x.o, .int .u64 (lm x.a 0), .int .u64 (lm x.a 1), .int .u64 (lm x.a 2), .int .u64 (lm x.a 3)] 27) = w1 at *
  go_region_held3 (fun w' => w'.cell? ⟨w.heap.size, 0, none⟩ = some (.int .u32 x.i) ∧ w'.cell? ⟨w.heap.size, 1, none⟩ = some (.int .u8 x.t) ∧ w'.cell? ⟨w.heap.size, 2, none⟩ = some (.int .u8 x.o) ∧ w'.cell? ⟨w.heap.size, 3, none⟩ = some (.int .u64 (lm x.a 0)) ∧ w'.cell? ⟨w.heap.size, 4, none⟩ = some (.int .u64 (lm x.a 1)) ∧ w'.cell? ⟨w.heap.size, 5, none⟩ = some (.int .u64 (lm x.a 2)) ∧ w'.cell? ⟨w.heap.size, 6, none⟩ = some (.int .u64 (lm x.a 3)))
    (exact ⟨X.out.box.c0, X.out.box.c1, X.out.box.c2, X.out.box.c3, X.out.box.c4, X.out.box.c5, X.out.box.c6⟩)
    (first
      | (go_at_call_of 22 (Value.int .u64 x.i); refine (num_any x.i 4 _ (by omega) (by omega) (by omega)).mono ?_; rintro e w2 ⟨rfl, hb⟩; replace X := hide (X.out.after hb); clear hb)
      | (go_at_call_of 22 (Value.int .u64 x.t); refine (num_any x.t 1 _ (by omega) (by omega) (by omega)).mono ?_; rintro e w2 ⟨rfl, hb⟩; replace X := hide (X.out.after hb); clear hb)
      | (go_at_call_of 22 (Value.int .u64 x.o); refine (num_any x.o 1 _ (by omega) (by omega) (by omega)).mono ?_; rintro e w2 ⟨rfl, hb⟩; replace X := hide (X.out.after hb); clear hb)
      | (go_at_call 23; refine (refint_any x.a _ HA.out).mono ?_; rintro e w2 ⟨rfl, hb⟩; replace X := hide (X.out.after hb); clear hb))
  go_wp2
  go_ret
  exact ⟨ret_str (by rw [str_append, str_append, str_append]; rfl), X.out.below⟩
end Go.Proofs.YthcahgfoganehaaDoor
