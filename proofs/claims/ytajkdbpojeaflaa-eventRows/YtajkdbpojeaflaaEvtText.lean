/- The contract of sponsionref09.Text over this translation. -/
import Derived.Test.YtajkdbpojeaflaaEvtPut
import Derived.Test.YtajkdbpojeaflaaRef4
import Derived.Test.YtajkdbpojeaflaaHand
namespace Go.Proofs.Ytajkdbpojeaflaa
open Go.RowKit Go.Lib
attribute [local go_sem] setCell_drewN alloc_drewN

/-- What stands while an event's text is made. -/
structure TX9 (w0 w : World) (g : Nat) (x : Evt) : Prop where
  box : VRow w g (ec x)
  below : Below w0.heap.size w0 w
theorem TX9.after {w0 w w' : World} {g : Nat} {x : Evt} (h : TX9 w0 w g x) (hb : Below w.heap.size w w') : TX9 w0 w' g x := ⟨h.box.after hb rfl, bOn h.below hb⟩
theorem TX9.hat {w0 w : World} {g : Nat} {x : Evt} (h : TX9 w0 w g x) : At w (some ⟨g, 2, none⟩) (h32 x.h) := by
  refine .inr ⟨_, _, rfl, h.box.lt, fun j hj => ?_⟩
  have hj' : j < 32 := by rwa [h32_length] at hj
  rw [h.box.cell (2 + j) (ec_hash x hj')]
  simp [h32, hj']
theorem be_one (a : Int) (h0 : 0 ≤ a) (h1 : a < 256) : be a 1 = [a] := by
  have e : be a 1 = [a / 2 ^ (8 * (1 - 1 - 0)) % 256] := rfl
  rw [e]
  simp
  omega
theorem at_four (w : World) (s t f u : Int) (ty : TypeId) : At (w.alloc (.cells #[.int .u8 s, .int .u8 t, .int .u8 f, .int .u8 u] ty)) (some ⟨w.heap.size, 0, none⟩) [s, t, f, u] := by
  refine .inr ⟨_, _, rfl, by simp, fun j hj => ?_⟩
  have hj4 : j = 0 ∨ j = 1 ∨ j = 2 ∨ j = 3 := by simp at hj; omega
  rcases hj4 with rfl | rfl | rfl | rfl <;> (rw [World.cell?_alloc_at _ _ _ _ rfl]; simp)
set_option maxRecDepth 100000 in
set_option maxHeartbeats 4000000 in
theorem text9_any (x : Evt) (hx : x.Ok) (w : World) :
    Calls Try.prog 12 #[evV x] w fun e w' => e = .returned (.string (strOfNums (ebytes x))) ∧ Below w.heap.size w w' := by
  obtain ⟨k0, k1⟩ := hx.k
  obtain ⟨b0, b1⟩ := hx.b
  obtain ⟨s0, s1⟩ := hx.s
  obtain ⟨t0, t1⟩ := hx.t
  obtain ⟨f0, f1⟩ := hx.f
  obtain ⟨u0, u1⟩ := hx.u
  obtain ⟨n0, n1⟩ := hx.n
  have HA := hide hx.a; have HC := hide hx.c
  clear hx
  have wk : IntKind.u64.wrap x.k = x.k := by rw [IntKind.wrap_u64]; omega
  have wn : IntKind.u64.wrap x.n = x.n := by rw [IntKind.wrap_u64]; omega
  have z0 : (strOfNums (be x.k 1)).size = 1 := by rw [strOfNums_size, be_length]
  have z1 : (strOfNums (be x.b 8)).size = 8 := by rw [strOfNums_size, be_length]
  have z2 : (strOfNums (h32 x.h)).size = 32 := by rw [strOfNums_size, h32_length]
  have z4 : (strOfNums [x.s, x.t, x.f, x.u]).size = 4 := by rw [strOfNums_size]; rfl
  have z5 : (strOfNums (b32 x.a)).size = 32 := by rw [strOfNums_size, b32_length]
  have z6 : (strOfNums (b32 x.c)).size = 32 := by rw [strOfNums_size, b32_length]
  have z7 : (strOfNums (be x.n 4)).size = 4 := by rw [strOfNums_size, be_length]
  have X0 : Hid (TX9 w (w.alloc (.cells (ec x).toArray 37)) w.heap.size x) := ⟨VRow.new w _ _, bAl (bMe w)⟩
  go_enter Try.func12, Try.ntmps12
  go_wp2
  generalize w.alloc (.cells (ec x).toArray 37) = w1 at *
  obtain ⟨g, hg⟩ : ∃ g, w.heap.size = g := ⟨_, rfl⟩
  rw [hg] at X0
  simp only [hg]
  have HG := hide hg
  clear hg
  have X := hide (X0.out.after (bMe w1).drew)
  clear X0
  refine wp_region_held_drew (S := fun w' => TX9 w w' g x) (by kernel_rfl) X.out (fun _ => ?_)
  generalize w1.drew = w2 at *
  refine tk0 (v := .pointer (some ⟨g, 0, none⟩)) (by kernel_rfl) (by kernel_rfl) (by kernel_rfl) (fun _ _ _ h => h) X.out (Or.inl ⟨by rfl, fun w hw => by go_simp; try (with_reducible rfl)⟩) ?_
  simp only [Act.put, List.setIfInBounds_toArray, List.set_cons_zero, List.set_cons_succ]
  refine tk1 (v := .int .u8 x.k) (by kernel_rfl) (by kernel_rfl) (by kernel_rfl) (fun _ _ _ h => h) X.out (Or.inl ⟨by rfl, fun w hw => by have c := hw.box.cell 0 rfl; go_simp; try (with_reducible rfl)⟩) ?_
  simp only [Act.put, List.setIfInBounds_toArray, List.set_cons_zero, List.set_cons_succ]
  refine tk2 (v := .int .u64 x.k) (by kernel_rfl) (by kernel_rfl) (by kernel_rfl) (fun _ _ _ h => h) X.out (Or.inl ⟨by rfl, fun w hw => by go_simp; try (exact wk)⟩) ?_
  simp only [Act.put, List.setIfInBounds_toArray, List.set_cons_zero, List.set_cons_succ]
  refine tk4 (v := .pointer (some ⟨g, 1, none⟩)) (by kernel_rfl) (by kernel_rfl) (by kernel_rfl) (fun _ _ _ h => h) X.out (Or.inl ⟨by rfl, fun w hw => by go_simp; try (with_reducible rfl)⟩) ?_
  simp only [Act.put, List.setIfInBounds_toArray, List.set_cons_zero, List.set_cons_succ]
  refine tk5 (v := .int .u64 x.b) (by kernel_rfl) (by kernel_rfl) (by kernel_rfl) (fun _ _ _ h => h) X.out (Or.inl ⟨by rfl, fun w hw => by have c := hw.box.cell 1 rfl; go_simp; try (with_reducible rfl)⟩) ?_
  simp only [Act.put, List.setIfInBounds_toArray, List.set_cons_zero, List.set_cons_succ]
  refine tk8 (v := .pointer (some ⟨g, 2, none⟩)) (by kernel_rfl) (by kernel_rfl) (by kernel_rfl) (fun _ _ _ h => h) X.out (Or.inl ⟨by rfl, fun w hw => by go_simp; try (with_reducible rfl)⟩) ?_
  simp only [Act.put, List.setIfInBounds_toArray, List.set_cons_zero, List.set_cons_succ]
  refine tk9 (v := .slice (some ⟨g, 2, none⟩) 32 32) (by kernel_rfl) (by kernel_rfl) (by kernel_rfl) (fun _ _ _ h => h) X.out (Or.inl ⟨by rfl, fun w hw => by go_simp; try (with_reducible rfl)⟩) ?_
  simp only [Act.put, List.setIfInBounds_toArray, List.set_cons_zero, List.set_cons_succ]
  refine tk10 (v := .string (strOfNums (h32 x.h))) (by kernel_rfl) (by kernel_rfl) (by kernel_rfl) (fun _ _ _ h => h) X.out (Or.inl ⟨by rfl, fun w hw => by have c := hw.hat.str 32; rw [h32_length] at c; go_simp; try (with_reducible rfl)⟩) ?_
  simp only [Act.put, List.setIfInBounds_toArray, List.set_cons_zero, List.set_cons_succ]
  refine wpAnyH_ready (rs := [3]) (by kernel_rfl) (by simp) ?_
  refine rd3 (fun K hK => ?_) AllReadyH.nil
  go_simp
  refine (num_any x.k 1 _ (by omega) (by omega) (by omega)).mono ?_
  rintro e w3 ⟨rfl, hb⟩
  simp only []
  replace X := hide (X.out.after hb)
  clear hb
  refine hK.out _ _ X.out (fun _ => ?_)
  clear hK K
  refine wpAnyH_ready (rs := [6]) (by kernel_rfl) (by simp) ?_
  refine rd6 (fun K hK => ?_) AllReadyH.nil
  go_simp
  refine (num_any x.b 8 _ (by omega) (by omega) (by omega)).mono ?_
  rintro e w3 ⟨rfl, hb⟩
  simp only []
  replace X := hide (X.out.after hb)
  clear hb
  refine hK.out _ _ X.out (fun _ => ?_)
  clear hK K
  refine tk7 (v := .string (strOfNums (be x.k 1) ++ strOfNums (be x.b 8))) (by kernel_rfl) (by kernel_rfl) (by kernel_rfl) (fun _ _ _ h => h) X.out (Or.inl ⟨by rfl, fun w hw => by go_simp; try (with_reducible rfl)⟩) ?_
  simp only [Act.put, List.setIfInBounds_toArray, List.set_cons_zero, List.set_cons_succ]
  refine tk11 (v := .string (strOfNums (be x.k 1) ++ strOfNums (be x.b 8) ++ strOfNums (h32 x.h))) (by kernel_rfl) (by kernel_rfl) (by kernel_rfl) (fun _ _ _ h => h) X.out (Or.inl ⟨by rfl, fun w hw => by go_simp; try (with_reducible rfl)⟩) ?_
  simp only [Act.put, List.setIfInBounds_toArray, List.set_cons_zero, List.set_cons_succ]
  refine tk12 (v := .string (strOfNums (be x.k 1) ++ strOfNums (be x.b 8) ++ strOfNums (h32 x.h))) (by kernel_rfl) (by kernel_rfl) (by kernel_rfl) (fun _ _ _ h => h) X.out (Or.inl ⟨by rfl, fun w hw => by go_simp; try (with_reducible rfl)⟩) ?_
  simp only [Act.put, List.setIfInBounds_toArray, List.set_cons_zero, List.set_cons_succ]
  refine wpAnyH_done (by kernel_rfl) ?_ _
  have ZL : (strOfNums (be x.k 1) ++ strOfNums (be x.b 8) ++ strOfNums (h32 x.h)) = strOfNums (be x.k 1 ++ be x.b 8 ++ h32 x.h) := by rw [str_append, str_append]
  rw [ZL]
  obtain ⟨L1, hL1⟩ : ∃ L1, be x.k 1 ++ be x.b 8 ++ h32 x.h = L1 := ⟨_, rfl⟩
  rw [hL1]
  have zL : (strOfNums L1).size = 41 := by rw [strOfNums_size, ← hL1]; simp [be_length, h32_length]
  have HL1 := hide hL1
  clear hL1 ZL
  have c0 := X.out.box.cell 34 (ec_tail x 0)
  have c1 := X.out.box.cell 35 (ec_tail x 1)
  have c2 := X.out.box.cell 36 (ec_tail x 2)
  have c3 := X.out.box.cell 37 (ec_tail x 3)
  have cv := (at_four w3 x.s x.t x.f x.u 5).str 4
  have hlen4 : [x.s, x.t, x.f, x.u].length = 4 := rfl
  rw [hlen4] at cv
  go_wp2
  clear cv c0 c1 c2 c3
  replace X := hide (X.out.after ((bAl (o := .cells #[.int .u8 x.s, .int .u8 x.t, .int .u8 x.f, .int .u8 x.u] 5) (bMe w3)).drew))
  generalize w3.alloc (.cells #[.int .u8 x.s, .int .u8 x.t, .int .u8 x.f, .int .u8 x.u] 5) = w4 at *
  go_region_held3 (fun w' => w'.cell? ⟨g, 38, none⟩ = some (.int .u64 (lm x.a 0)) ∧ w'.cell? ⟨g, 39, none⟩ = some (.int .u64 (lm x.a 1)) ∧ w'.cell? ⟨g, 40, none⟩ = some (.int .u64 (lm x.a 2)) ∧ w'.cell? ⟨g, 41, none⟩ = some (.int .u64 (lm x.a 3)) ∧ w'.cell? ⟨g, 42, none⟩ = some (.int .u64 (lm x.c 0)) ∧ w'.cell? ⟨g, 43, none⟩ = some (.int .u64 (lm x.c 1)) ∧ w'.cell? ⟨g, 44, none⟩ = some (.int .u64 (lm x.c 2)) ∧ w'.cell? ⟨g, 45, none⟩ = some (.int .u64 (lm x.c 3)) ∧ w'.cell? ⟨g, 46, none⟩ = some (.int .u32 x.n))
    (exact held9c X.out.box)
    (first
      | (go_at_call_of 23 (Value.agg #[.int .u64 (lm x.a 0), .int .u64 (lm x.a 1), .int .u64 (lm x.a 2), .int .u64 (lm x.a 3)]); refine (refint_any x.a _ HA.out).mono ?_; rintro e w5 ⟨rfl, hb⟩; replace X := hide (X.out.after hb); clear hb)
      | (go_at_call_of 23 (Value.agg #[.int .u64 (lm x.c 0), .int .u64 (lm x.c 1), .int .u64 (lm x.c 2), .int .u64 (lm x.c 3)]); refine (refint_any x.c _ HC.out).mono ?_; rintro e w5 ⟨rfl, hb⟩; replace X := hide (X.out.after hb); clear hb)
      | (go_at_call 22; refine (num_any x.n 4 _ (by omega) (by omega) (by omega)).mono ?_; rintro e w5 ⟨rfl, hb⟩; replace X := hide (X.out.after hb); clear hb))
  go_wp2
  go_ret
  refine ⟨ret_str ?_, by have := X.out.below; first | exact this | (rw [HG.out] at this; exact this) | (rw [← HG.out]; exact this)⟩
  rw [← HL1.out, str_append, str_append, str_append, str_append]
  unfold ebytes
  rw [be_one x.s s0 s1, be_one x.t t0 t1, be_one x.f f0 f1, be_one x.u u0 u1]
  simp only [List.append_assoc, List.cons_append, List.nil_append]
end Go.Proofs.Ytajkdbpojeaflaa
