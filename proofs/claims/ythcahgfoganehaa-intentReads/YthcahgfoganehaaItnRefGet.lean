/- Contract of sponsionref07.Get over this translation. -/
import Derived.Test.YthcahgfoganehaaItnRef
import Derived.Test.YthcahgfoganehaaHand
namespace Go.Proofs.Ythcahgfoganehaa
open Go.RowKit Go.Lib
attribute [local go_sem] setCell_drewN alloc_drewN

theorem ibytes_cuts (x : Itn) (hx : x.Ok) : (ibytes x).take 4 = be x.i 4 ∧ (ibytes x).getD 4 0 = x.t ∧ (ibytes x).getD 5 0 = x.o ∧ (ibytes x).drop 6 = b32 x.a := by
  have e1 : ∀ a : Int, 0 ≤ a → a < 256 → be a 1 = [a] := fun a h0 h1 => by
    have e : be a 1 = [a / 2 ^ (8 * (1 - 1 - 0)) % 256] := rfl
    rw [e]; simp; omega
  have e : ibytes x = be x.i 4 ++ (x.t :: x.o :: b32 x.a) := by
    unfold ibytes
    rw [e1 x.t hx.t.1 hx.t.2, e1 x.o hx.o.1 hx.o.2]; simp
  rw [e]
  have hl : (be x.i 4).length = 4 := be_length _ _
  refine ⟨List.take_left' hl, ?_, ?_, ?_⟩
  · rw [List.getD_eq_getElem?_getD, List.getElem?_append_right (by omega), hl]; rfl
  · rw [List.getD_eq_getElem?_getD, List.getElem?_append_right (by omega), hl]; rfl
  · rw [show (6 : Nat) = 4 + 2 from rfl, ← List.drop_drop, List.drop_left' hl]; rfl
/-- Block g of w holds a reader of the document's, and may be written. -/
structure R2 (w : World) (g : Nat) (s : ByteArray) (e : Int) : Prop where
  lt : g < w.heap.size
  c0 : w.cell? ⟨g, 0, none⟩ = some (.string s)
  c1 : w.cell? ⟨g, 1, none⟩ = some (.int .i64 e)
  fr : ∀ o, w.frozen? ⟨g, o, none⟩ = false
theorem R2.of {w w' : World} {g : Nat} {s : ByteArray} {e : Int} (h : R2 w g s e) (hs : w.heap.size ≤ w'.heap.size) (hb : w'.heap[g]? = w.heap[g]?) : R2 w' g s e :=
  ⟨Nat.lt_of_lt_of_le h.lt hs, (World.cell?_of_block (w := w) (a := ⟨g, 0, none⟩) hb).trans h.c0, (World.cell?_of_block (w := w) (a := ⟨g, 1, none⟩) hb).trans h.c1, fun o => (World.frozen?_of_block (w := w) (a := ⟨g, o, none⟩) hb).trans (h.fr o)⟩
theorem R2.after {w w1 w' : World} {g : Nat} {s : ByteArray} {e : Int} (h : R2 w g s e) (hb : Below w1.heap.size w1 w') (e1 : w1.heap = w.heap) : R2 w' g s e :=
  h.of (by rw [← e1]; exact hb.size) (by rw [hb.block g (by rw [e1]; exact h.lt), e1])
theorem R2.past {w : World} {g : Nat} {s : ByteArray} {e : Int} (h : R2 w g s e) (x : Obj) : R2 (w.alloc x) g s e := h.of (by simp) (Below.heap_alloc _ _ _ h.lt)
theorem R2.other {w : World} {g : Nat} {s : ByteArray} {e : Int} (h : R2 w g s e) {p : Addr} (hp : g ≠ p.block) (v : Value) : R2 (w.setCell p v) g s e := h.of (by simp [World.setCell]) (Below.heap_setCell _ _ _ _ hp)
theorem R2.new (w : World) (s : ByteArray) (e : Int) (t : TypeId) {g : Nat} (hg : w.heap.size = g) : R2 (w.alloc (.cells #[.string s, .int .i64 e] t)) g s e := by
  subst hg
  exact ⟨by simp, by simp [go_sem], by simp [go_sem], fun o => by simp [go_sem]⟩
abbrev putR (w : World) (g : Nat) (s : ByteArray) (e : Int) : World := (w.setCell ⟨g, 0, none⟩ (.string s)).setCell ⟨g, 1, none⟩ (.int .i64 e)
theorem R2.put {w : World} {g : Nat} {s : ByteArray} {e : Int} (h : R2 w g s e) (s' : ByteArray) (e' : Int) : R2 (putR w g s' e') g s' e' := by
  obtain ⟨lt, c0, c1, fr⟩ := h
  exact ⟨by simpa [World.setCell] using lt, by simp [go_sem, c0], by simp [go_sem, c1], fun o => by simp [go_sem, fr]⟩
theorem R2.put7o {w : World} {g gr : Nat} {s : ByteArray} {e : Int} (h : R2 w g s e) (h1 : g ≠ gr) (i' t' o' a' b' c' d' : Int) : R2 (put7 w gr i' t' o' a' b' c' d') g s e :=
  ((((((h.other (p := ⟨gr, 0, none⟩) h1 _).other (p := ⟨gr, 1, none⟩) h1 _).other (p := ⟨gr, 2, none⟩) h1 _).other (p := ⟨gr, 3, none⟩) h1 _).other (p := ⟨gr, 4, none⟩) h1 _).other (p := ⟨gr, 5, none⟩) h1 _).other (p := ⟨gr, 6, none⟩) h1 _
theorem Bx.putRo {w : World} {g gr : Nat} {i t o a b c d : Int} (h : Bx w g i t o a b c d) (h1 : g ≠ gr) (s : ByteArray) (e : Int) : Bx (putR w gr s e) g i t o a b c d :=
  (h.other (p := ⟨gr, 0, none⟩) h1 _).other (p := ⟨gr, 1, none⟩) h1 _
/-- What stands while the document's reader reads: the results' boxes. -/
structure QS (w0 w : World) (g2 g3 : Nat) : Prop where
  r2 : R2 w g2 ⟨#[]⟩ 0
  b3 : Bx w g3 0 0 0 0 0 0 0
  ne : g2 ≠ g3
  low2 : w0.heap.size ≤ g2
  low3 : w0.heap.size ≤ g3
  below : Below w0.heap.size w0 w
theorem QS.after {w0 w w' : World} {g2 g3 : Nat} (h : QS w0 w g2 g3) (hb : Below w.heap.size w w') : QS w0 w' g2 g3 :=
  ⟨h.r2.after hb rfl, h.b3.after hb rfl, h.ne, h.low2, h.low3, bOn h.below hb⟩
theorem QS.new (w : World) (s : ByteArray) (e : Int) (t1 t2 t3 : TypeId) : QS w (((w.alloc (.cells #[.string s, .int .i64 e] t1)).alloc (.cells #[.string ⟨#[]⟩, .int .i64 0] t2)).alloc (.cells #[.int .u32 0, .int .u8 0, .int .u8 0, .int .u64 0, .int .u64 0, .int .u64 0, .int .u64 0] t3)) (w.heap.size + 1) (w.heap.size + 1 + 1) :=
  ⟨(R2.new _ _ _ _ (by simp)).past _, Bx.new _ _ _ _ _ _ _ _ _ (by simp), by omega, by omega, by omega, bAl (bAl (bAl (bMe w)))⟩
theorem QS.done {w0 w : World} {g2 g3 : Nat} (h : QS w0 w g2 g3) (s : ByteArray) (e i t o a b c d : Int) : R2 (put7 (putR w g2 s e) g3 i t o a b c d) g2 s e ∧ Bx (put7 (putR w g2 s e) g3 i t o a b c d) g3 i t o a b c d ∧ Below w0.heap.size w0 (put7 (putR w g2 s e) g3 i t o a b c d) :=
  ⟨(h.r2.put s e).put7o h.ne _ _ _ _ _ _ _, (h.b3.putRo h.ne.symm s e).put _ _ _ _ _ _ _, put7_below ((h.below.setCell (p := ⟨g2, 0, none⟩) h.low2 _).setCell (p := ⟨g2, 1, none⟩) h.low2 _) h.low3⟩
/-- What stands in the middle: the results' boxes, what is left. -/
structure QR (w0 w : World) (g2 g3 g4 : Nat) (S : ByteArray) : Prop where
  qs : QS w0 w g2 g3
  r2 : R2 w g4 S 0
  ne : g4 ≠ g2 ∧ g4 ≠ g3
theorem QR.after {w0 w w' : World} {g2 g3 g4 : Nat} {S : ByteArray} (h : QR w0 w g2 g3 g4 S) (hb : Below w.heap.size w w') : QR w0 w' g2 g3 g4 S := ⟨h.qs.after hb, h.r2.after hb rfl, h.ne⟩
/-- And the intent's own box. -/
structure YR (w0 w : World) (g2 g3 g4 : Nat) (S : ByteArray) (g7 : Nat) (i t o a b c d : Int) : Prop where
  qr : QR w0 w g2 g3 g4 S
  b7 : Bx w g7 i t o a b c d
  ne2 : g2 ≠ g7
  ne3 : g3 ≠ g7
  ne4 : g4 ≠ g7
  low : w0.heap.size ≤ g7
theorem QR.box {w0 w : World} {g2 g3 g4 : Nat} {S : ByteArray} (h : QR w0 w g2 g3 g4 S) (t : TypeId) : YR w0 (w.alloc (.cells #[.int .u32 0, .int .u8 0, .int .u8 0, .int .u64 0, .int .u64 0, .int .u64 0, .int .u64 0] t)) g2 g3 g4 S w.heap.size 0 0 0 0 0 0 0 :=
  ⟨h.after (bAl (bMe w)), Bx.new w _ _ _ _ _ _ _ _ rfl, Nat.ne_of_lt h.qs.r2.lt, Nat.ne_of_lt h.qs.b3.lt, Nat.ne_of_lt h.r2.lt, h.qs.below.size⟩
theorem YR.after {w0 w w' : World} {g2 g3 g4 g7 : Nat} {S : ByteArray} {i t o a b c d : Int} (h : YR w0 w g2 g3 g4 S g7 i t o a b c d) (hb : Below w.heap.size w w') : YR w0 w' g2 g3 g4 S g7 i t o a b c d :=
  ⟨h.qr.after hb, h.b7.after hb rfl, h.ne2, h.ne3, h.ne4, h.low⟩
theorem YR.put {w0 w : World} {g2 g3 g4 g7 : Nat} {S : ByteArray} {i t o a b c d : Int} (h : YR w0 w g2 g3 g4 S g7 i t o a b c d) (i' t' o' a' b' c' d' : Int) : YR w0 (put7 w g7 i' t' o' a' b' c' d') g2 g3 g4 S g7 i' t' o' a' b' c' d' :=
  ⟨⟨⟨h.qr.qs.r2.put7o h.ne2 _ _ _ _ _ _ _, h.qr.qs.b3.put7o h.ne3 _ _ _ _ _ _ _, h.qr.qs.ne, h.qr.qs.low2, h.qr.qs.low3, put7_below h.qr.qs.below h.low⟩, h.qr.r2.put7o h.ne4 _ _ _ _ _ _ _, h.qr.ne⟩, h.b7.put _ _ _ _ _ _ _, h.ne2, h.ne3, h.ne4, h.low⟩
set_option maxHeartbeats 8000000 in
theorem refget_no (l : List Int) (e : Int) (w : World) (hn : e ≠ 0 ∨ l.length < 38) :
    Calls Try.prog 7 #[rd l e] w fun r w' => r = .returned (.tuple #[rd [] (errOf e), itn7 0 0 0 0 0 0 0]) ∧ Below w.heap.size w w' := by
  have HN := hide hn
  clear hn
  have Q := hide (QS.new w (strOfNums l) e 34 34 29)
  go_enter Try.func7, Try.ntmps7
  go_wp2_with fail
  generalize ((w.alloc (.cells #[.string (strOfNums l), .int .i64 e] 34)).alloc (.cells #[.string ⟨#[]⟩, .int .i64 0] 34)).alloc (.cells #[.int .u32 0, .int .u8 0, .int .u8 0, .int .u64 0, .int .u64 0, .int .u64 0, .int .u64 0] 29) = w1 at *
  refine (take4_no l e 38 w1 HN.out).mono ?_
  rintro r w2 ⟨rfl, hb⟩
  replace Q := hide (Q.out.after hb)
  clear hb
  have R := hide (R2.new w2 (strOfNums []) (errOf e) 34 rfl)
  replace Q := hide (Q.out.after (bAl (o := .cells #[.string (strOfNums []), .int .i64 (errOf e)] 34) (bMe w2)))
  generalize w.heap.size + 1 + 1 = g3 at *
  generalize w.heap.size + 1 = g2 at *
  obtain ⟨r1, r2, r3, r4⟩ := R.out
  obtain ⟨q1, q2, q3, q4⟩ := Q.out.r2
  obtain ⟨p0, p1, p2, p3, p4, p5, p6, p7, p8⟩ := Q.out.b3
  have hne := Q.out.ne
  go_wp2
  obtain ⟨D1, D2, D3⟩ := Q.out.done (strOfNums []) (errOf e) 0 0 0 0 0 0 0
  obtain ⟨d1, d2, d3, d4⟩ := D1
  obtain ⟨f0, f1, f2, f3, f4, f5, f6, f7, f8⟩ := D2
  refine bodyPost_ret (v := .tuple #[rd [] (errOf e), itn7 0 0 0 0 0 0 0]) (by simp [results, Try.results7, go_sem, d2, d3, f1, f2, f3, f4, f5, f6, f7]) rfl ⟨rfl, D3⟩
set_option maxHeartbeats 8000000 in
theorem refget_yes (l : List Int) (w : World) (hl : 38 ≤ l.length) (hb : Byt l) :
    Calls Try.prog 7 #[rd l 0] w fun r w' => ∃ x l' e', r = .returned (.tuple #[rd l' e', itnV x]) ∧ Got l 0 x l' e' ∧ Below w.heap.size w w' := by
  obtain ⟨x, hx⟩ : ∃ x, iof l = x := ⟨_, rfl⟩
  have HX : Hid x.Ok := by rw [← hx]; exact iof_ok hb hl
  have HT : Hid (l.take 38 = ibytes x) := by rw [← hx]; exact (ibytes_iof hb hl).symm
  have HI := hide hx
  obtain ⟨c0, c1, c2, c3⟩ := ibytes_cuts x HX.out
  have s0 : (strOfNums (ibytes x)).extract 0 4 = strOfNums (be x.i 4) := by rw [str_take, c0]
  have s3 : (strOfNums (ibytes x)).extract 6 38 = strOfNums (b32 x.a) := by
    have := str_drop (ibytes x) 6
    rwa [ibytes_length, c3] at this
  have s1 : ∀ h, (((strOfNums (ibytes x))[4]'h).toNat : Int) = x.t := fun h => by rw [str_get (ibytes_byt x) 4 h, c1]
  have s2 : ∀ h, (((strOfNums (ibytes x))[5]'h).toNat : Int) = x.o := fun h => by rw [str_get (ibytes_byt x) 5 h, c2]
  have hsz : (strOfNums (ibytes x)).size = 38 := by rw [strOfNums_size, ibytes_length]
  have HB := hide hb; have HL := hide hl
  have V0 : Hid (∀ w, Calls Try.prog 17 #[.string (strOfNums (be x.i 4))] w fun e w' => e = .returned (.int .u64 x.i) ∧ w' = w) := fun w => by
    have := value_any (be x.i 4) w (pre_byt _ _ _) (by rw [be_length]; omega)
    rwa [bval_be HX.out.i.1 (by simpa using HX.out.i.2)] at this
  have V1 : Hid (∀ w, Calls Try.prog 18 #[.string (strOfNums (b32 x.a))] w fun e w' => e = .returned (big x.a) ∧ Below w.heap.size w w') := fun w => intOf_any x.a w HX.out.a
  have hxi : IntKind.u32.wrap x.i = x.i := by have := HX.out.i; rw [IntKind.wrap_u32]; omega
  clear hb hl hx c0 c1 c2 c3
  have Q := hide (QS.new w (strOfNums l) 0 34 34 29)
  go_enter Try.func7, Try.ntmps7
  go_wp2_with fail
  generalize ((w.alloc (.cells #[.string (strOfNums l), .int .i64 0] 34)).alloc (.cells #[.string ⟨#[]⟩, .int .i64 0] 34)).alloc (.cells #[.int .u32 0, .int .u8 0, .int .u8 0, .int .u64 0, .int .u64 0, .int .u64 0, .int .u64 0] 29) = w1 at *
  refine (take4_ok l 38 w1 HL.out).mono ?_
  rintro r w2 ⟨rfl, hb⟩
  rw [HT.out]
  replace Q := hide (Q.out.after hb)
  clear hb
  have N4 : Hid (w2.heap.size ≠ w.heap.size + 1 ∧ w2.heap.size ≠ w.heap.size + 1 + 1) := ⟨Nat.ne_of_gt Q.out.r2.lt, Nat.ne_of_gt Q.out.b3.lt⟩
  have R := hide (R2.new w2 (strOfNums (l.drop 38)) 0 34 rfl)
  replace Q := hide (Q.out.after (bAl (o := .cells #[.string (strOfNums (l.drop 38)), .int .i64 0] 34) (bMe w2)))
  generalize w.heap.size + 1 + 1 = g3 at *
  generalize w.heap.size + 1 = g2 at *
  generalize strOfNums (ibytes x) = T at *
  generalize strOfNums (be x.i 4) = T0 at *
  generalize strOfNums (b32 x.a) = T3 at *
  obtain ⟨S, hS⟩ : ∃ S, strOfNums (l.drop 38) = S := ⟨_, rfl⟩
  rw [hS] at Q R
  simp only [rd, hS]
  have HSS := hide hS
  clear hS
  go_wp2
  generalize (w2.alloc (.cells #[.string S, .int .i64 0] 34)) = w3 at *
  generalize w2.heap.size = g4 at *
  have X : Hid (QR w w3.drew g2 g3 g4 S) := ⟨Q.out.after (bMe w3).drew, R.out.after (bMe w3).drew rfl, N4.out⟩
  clear Q R
  refine wp_region_held_drew (S := fun _ => True) (by kernel_rfl) trivial (fun _ => ?_)
  generalize w3.drew = w4 at *
  refine tk0 (v := .string T) (by kernel_rfl) (by kernel_rfl) (by kernel_rfl) (fun _ _ _ h => h) trivial (Or.inl ⟨by rfl, fun w hw => by go_simp; try (with_reducible rfl)⟩) ?_
  simp only [Act.put, List.setIfInBounds_toArray, List.set_cons_zero, List.set_cons_succ]
  refine tk1 (v := .string T0) (by kernel_rfl) (by kernel_rfl) (by kernel_rfl) (fun _ _ _ h => h) trivial (Or.inl ⟨by rfl, fun w hw => by go_simp; try (with_reducible rfl)⟩) ?_
  simp only [Act.put, List.setIfInBounds_toArray, List.set_cons_zero, List.set_cons_succ]
  refine tk4 (v := .string T) (by kernel_rfl) (by kernel_rfl) (by kernel_rfl) (fun _ _ _ h => h) trivial (Or.inl ⟨by rfl, fun w hw => by go_simp; try (with_reducible rfl)⟩) ?_
  simp only [Act.put, List.setIfInBounds_toArray, List.set_cons_zero, List.set_cons_succ]
  refine tk5 (v := .int .u8 x.t) (by kernel_rfl) (by kernel_rfl) (by kernel_rfl) (fun _ _ _ h => h) trivial (Or.inl ⟨by rfl, fun w hw => by go_simp; try (with_reducible rfl)⟩) ?_
  simp only [Act.put, List.setIfInBounds_toArray, List.set_cons_zero, List.set_cons_succ]
  refine tk6 (v := .string T) (by kernel_rfl) (by kernel_rfl) (by kernel_rfl) (fun _ _ _ h => h) trivial (Or.inl ⟨by rfl, fun w hw => by go_simp; try (with_reducible rfl)⟩) ?_
  simp only [Act.put, List.setIfInBounds_toArray, List.set_cons_zero, List.set_cons_succ]
  refine tk7 (v := .int .u8 x.o) (by kernel_rfl) (by kernel_rfl) (by kernel_rfl) (fun _ _ _ h => h) trivial (Or.inl ⟨by rfl, fun w hw => by go_simp; try (with_reducible rfl)⟩) ?_
  simp only [Act.put, List.setIfInBounds_toArray, List.set_cons_zero, List.set_cons_succ]
  refine tk8 (v := .string T) (by kernel_rfl) (by kernel_rfl) (by kernel_rfl) (fun _ _ _ h => h) trivial (Or.inl ⟨by rfl, fun w hw => by go_simp; try (with_reducible rfl)⟩) ?_
  simp only [Act.put, List.setIfInBounds_toArray, List.set_cons_zero, List.set_cons_succ]
  refine tk9 (v := .string T3) (by kernel_rfl) (by kernel_rfl) (by kernel_rfl) (fun _ _ _ h => h) trivial (Or.inl ⟨by rfl, fun w hw => by go_simp; try (with_reducible rfl)⟩) ?_
  simp only [Act.put, List.setIfInBounds_toArray, List.set_cons_zero, List.set_cons_succ]
  refine wpAnyH_ready (rs := [2, 12]) (by kernel_rfl) (by simp) ?_
  refine rd2 (fun K hK => ?_) (rd12 (fun K hK => ?_) AllReadyH.nil)
  · go_simp
    refine (V0.out _).mono ?_
    rintro e w' ⟨rfl, rfl⟩
    simp only []
    refine hK.out _ _ trivial (fun _ => ?_)
    clear hK K
    refine tk3 (v := .int .u32 x.i) (by kernel_rfl) (by kernel_rfl) (by kernel_rfl) (fun _ _ _ h => h) trivial (Or.inl ⟨by rfl, fun w hw => by go_simp; try (exact hxi)⟩) ?_
    simp only [Act.put, List.setIfInBounds_toArray, List.set_cons_zero, List.set_cons_succ]
    refine wpAnyH_ready (rs := [10, 12]) (by kernel_rfl) (by simp) ?_
    refine rd10 (fun K hK => ?_) (rd12 (fun K hK => ?_) AllReadyH.nil)
    · go_simp
      refine (V1.out _).mono ?_
      rintro e w5 ⟨rfl, hb⟩
      simp only []
      replace X := hide (X.out.after hb)
      clear hb
      refine hK.out _ _ trivial (fun _ => ?_)
      clear hK K
      refine tk11 (v := itn7 x.i x.t x.o (lm x.a 0) (lm x.a 1) (lm x.a 2) (lm x.a 3)) (by kernel_rfl) (by kernel_rfl) (by kernel_rfl) (fun _ _ _ h => h) trivial (Or.inl ⟨by rfl, fun w hw => by go_simp; try (with_reducible rfl)⟩) ?_
      simp only [Act.put, List.setIfInBounds_toArray, List.set_cons_zero, List.set_cons_succ]
      refine wpAnyH_ready (rs := [12]) (by kernel_rfl) (by simp) ?_
      refine rd12 (fun K hK => ?_) AllReadyH.nil
      go_simp
      replace X := hide (X.out.box 29)
      generalize w5.alloc (.cells #[.int .u32 0, .int .u8 0, .int .u8 0, .int .u64 0, .int .u64 0, .int .u64 0, .int .u64 0] 29) = w7 at *
      generalize w5.heap.size = g7 at *
      refine hK.out _ _ trivial (fun _ => ?_)
      clear hK K
      refine wpAnyH_ready (rs := [13]) (by kernel_rfl) (by simp) ?_
      refine rd13 (fun K hK => ?_) AllReadyH.nil
      obtain ⟨y0, y1, y2, y3, y4, y5, y6, y7, y8⟩ := X.out.b7
      go_simp
      replace X := hide (X.out.put x.i x.t x.o (lm x.a 0) (lm x.a 1) (lm x.a 2) (lm x.a 3))
      clear y0 y1 y2 y3 y4 y5 y6 y7 y8
      refine hK.out _ _ trivial (fun _ => ?_)
      clear hK K
      refine wpAnyH_done (by kernel_rfl) ?_ _
      obtain ⟨w9, hw9⟩ : ∃ w9, ((((((w7.setCell ⟨g7, 0, none⟩ (.int .u32 x.i)).setCell ⟨g7, 1, none⟩ (.int .u8 x.t)).setCell ⟨g7, 2, none⟩ (.int .u8 x.o)).setCell ⟨g7, 3, none⟩ (.int .u64 (lm x.a 0))).setCell ⟨g7, 4, none⟩ (.int .u64 (lm x.a 1))).setCell ⟨g7, 5, none⟩ (.int .u64 (lm x.a 2))).setCell ⟨g7, 6, none⟩ (.int .u64 (lm x.a 3)) = w9 := ⟨_, rfl⟩
      rw [hw9]
      replace X : Hid (YR w w9 g2 g3 g4 S g7 x.i x.t x.o (lm x.a 0) (lm x.a 1) (lm x.a 2) (lm x.a 3)) := by rw [← hw9]; exact X
      clear hw9
      obtain ⟨y0, y1, y2, y3, y4, y5, y6, y7, y8⟩ := X.out.b7
      go_wp2_with fail
      clear y0 y1 y2 y3 y4 y5 y6 y7 y8
      refine (may_any x HX.out w9).mono ?_
      rintro e w10 ⟨rfl, hb⟩
      replace X := hide (X.out.after hb)
      clear hb
      obtain ⟨y0, y1, y2, y3, y4, y5, y6, y7, y8⟩ := X.out.b7
      obtain ⟨q1, q2, q3, q4⟩ := X.out.qr.qs.r2
      obtain ⟨p0, p1, p2, p3, p4, p5, p6, p7, p8⟩ := X.out.qr.qs.b3
      obtain ⟨r1, r2, r3, r4⟩ := X.out.qr.r2
      have n1 := X.out.qr.qs.ne
      have n2 := X.out.ne2
      have n3 := X.out.ne3
      have n4 := X.out.ne4
      obtain ⟨n5, n6⟩ := X.out.qr.ne
      cases hm : may x with
      | false =>
        go_wp2
        obtain ⟨D1, D2, D3⟩ := X.out.qr.qs.done ⟨#[]⟩ 6 0 0 0 0 0 0 0
        obtain ⟨d1, d2, d3, d4⟩ := D1
        obtain ⟨f0, f1, f2, f3, f4, f5, f6, f7, f8⟩ := D2
        exact bodyPost_ret (v := .tuple #[.agg #[.string ⟨#[]⟩, .int .i64 6], itn7 0 0 0 0 0 0 0]) (by simp [results, Try.results7, go_sem, d2, d3, f1, f2, f3, f4, f5, f6, f7]) rfl ⟨noItn, [], 6, by rw [noItn_V]; rfl, .inr (.inl ⟨rfl, HL.out, by rw [HI.out]; exact hm, rfl, rfl, rfl⟩), D3⟩
      | true =>
        go_wp2
        go_region
        obtain ⟨D1, D2, D3⟩ := X.out.qr.qs.done S 0 x.i x.t x.o (lm x.a 0) (lm x.a 1) (lm x.a 2) (lm x.a 3)
        obtain ⟨d1, d2, d3, d4⟩ := D1
        obtain ⟨f0, f1, f2, f3, f4, f5, f6, f7, f8⟩ := D2
        go_wp2
        exact bodyPost_ret (v := .tuple #[.agg #[.string S, .int .i64 0], itnV x]) (by simp [results, Try.results7, go_sem, d2, d3, f1, f2, f3, f4, f5, f6, f7]) rfl ⟨x, l.drop 38, 0, by simp only [rd, HSS.out], .inl ⟨rfl, HL.out, by rw [HI.out]; exact hm, HI.out.symm, rfl, rfl⟩, D3.drew⟩
    · go_simp
      replace X := hide (X.out.box 29)
      generalize w'.alloc (.cells #[.int .u32 0, .int .u8 0, .int .u8 0, .int .u64 0, .int .u64 0, .int .u64 0, .int .u64 0] 29) = w7 at *
      generalize w'.heap.size = g7 at *
      refine hK.out _ _ trivial (fun _ => ?_)
      clear hK K
      refine wpAnyH_ready (rs := [10]) (by kernel_rfl) (by simp) ?_
      refine rd10 (fun K hK => ?_) AllReadyH.nil
      go_simp
      refine (V1.out _).mono ?_
      rintro e w5 ⟨rfl, hb⟩
      simp only []
      replace X := hide (X.out.after hb)
      clear hb
      refine hK.out _ _ trivial (fun _ => ?_)
      clear hK K
      refine tk11 (v := itn7 x.i x.t x.o (lm x.a 0) (lm x.a 1) (lm x.a 2) (lm x.a 3)) (by kernel_rfl) (by kernel_rfl) (by kernel_rfl) (fun _ _ _ h => h) trivial (Or.inl ⟨by rfl, fun w hw => by go_simp; try (with_reducible rfl)⟩) ?_
      simp only [Act.put, List.setIfInBounds_toArray, List.set_cons_zero, List.set_cons_succ]
      refine wpAnyH_ready (rs := [13]) (by kernel_rfl) (by simp) ?_
      refine rd13 (fun K hK => ?_) AllReadyH.nil
      obtain ⟨y0, y1, y2, y3, y4, y5, y6, y7, y8⟩ := X.out.b7
      go_simp
      replace X := hide (X.out.put x.i x.t x.o (lm x.a 0) (lm x.a 1) (lm x.a 2) (lm x.a 3))
      clear y0 y1 y2 y3 y4 y5 y6 y7 y8
      refine hK.out _ _ trivial (fun _ => ?_)
      clear hK K
      refine wpAnyH_done (by kernel_rfl) ?_ _
      obtain ⟨w9, hw9⟩ : ∃ w9, ((((((w5.setCell ⟨g7, 0, none⟩ (.int .u32 x.i)).setCell ⟨g7, 1, none⟩ (.int .u8 x.t)).setCell ⟨g7, 2, none⟩ (.int .u8 x.o)).setCell ⟨g7, 3, none⟩ (.int .u64 (lm x.a 0))).setCell ⟨g7, 4, none⟩ (.int .u64 (lm x.a 1))).setCell ⟨g7, 5, none⟩ (.int .u64 (lm x.a 2))).setCell ⟨g7, 6, none⟩ (.int .u64 (lm x.a 3)) = w9 := ⟨_, rfl⟩
      rw [hw9]
      replace X : Hid (YR w w9 g2 g3 g4 S g7 x.i x.t x.o (lm x.a 0) (lm x.a 1) (lm x.a 2) (lm x.a 3)) := by rw [← hw9]; exact X
      clear hw9
      obtain ⟨y0, y1, y2, y3, y4, y5, y6, y7, y8⟩ := X.out.b7
      go_wp2_with fail
      clear y0 y1 y2 y3 y4 y5 y6 y7 y8
      refine (may_any x HX.out w9).mono ?_
      rintro e w10 ⟨rfl, hb⟩
      replace X := hide (X.out.after hb)
      clear hb
      obtain ⟨y0, y1, y2, y3, y4, y5, y6, y7, y8⟩ := X.out.b7
      obtain ⟨q1, q2, q3, q4⟩ := X.out.qr.qs.r2
      obtain ⟨p0, p1, p2, p3, p4, p5, p6, p7, p8⟩ := X.out.qr.qs.b3
      obtain ⟨r1, r2, r3, r4⟩ := X.out.qr.r2
      have n1 := X.out.qr.qs.ne
      have n2 := X.out.ne2
      have n3 := X.out.ne3
      have n4 := X.out.ne4
      obtain ⟨n5, n6⟩ := X.out.qr.ne
      cases hm : may x with
      | false =>
        go_wp2
        obtain ⟨D1, D2, D3⟩ := X.out.qr.qs.done ⟨#[]⟩ 6 0 0 0 0 0 0 0
        obtain ⟨d1, d2, d3, d4⟩ := D1
        obtain ⟨f0, f1, f2, f3, f4, f5, f6, f7, f8⟩ := D2
        exact bodyPost_ret (v := .tuple #[.agg #[.string ⟨#[]⟩, .int .i64 6], itn7 0 0 0 0 0 0 0]) (by simp [results, Try.results7, go_sem, d2, d3, f1, f2, f3, f4, f5, f6, f7]) rfl ⟨noItn, [], 6, by rw [noItn_V]; rfl, .inr (.inl ⟨rfl, HL.out, by rw [HI.out]; exact hm, rfl, rfl, rfl⟩), D3⟩
      | true =>
        go_wp2
        go_region
        obtain ⟨D1, D2, D3⟩ := X.out.qr.qs.done S 0 x.i x.t x.o (lm x.a 0) (lm x.a 1) (lm x.a 2) (lm x.a 3)
        obtain ⟨d1, d2, d3, d4⟩ := D1
        obtain ⟨f0, f1, f2, f3, f4, f5, f6, f7, f8⟩ := D2
        go_wp2
        exact bodyPost_ret (v := .tuple #[.agg #[.string S, .int .i64 0], itnV x]) (by simp [results, Try.results7, go_sem, d2, d3, f1, f2, f3, f4, f5, f6, f7]) rfl ⟨x, l.drop 38, 0, by simp only [rd, HSS.out], .inl ⟨rfl, HL.out, by rw [HI.out]; exact hm, HI.out.symm, rfl, rfl⟩, D3.drew⟩
  · go_simp
    replace X := hide (X.out.box 29)
    generalize w4.alloc (.cells #[.int .u32 0, .int .u8 0, .int .u8 0, .int .u64 0, .int .u64 0, .int .u64 0, .int .u64 0] 29) = w7 at *
    generalize w4.heap.size = g7 at *
    refine hK.out _ _ trivial (fun _ => ?_)
    clear hK K
    refine wpAnyH_ready (rs := [2]) (by kernel_rfl) (by simp) ?_
    refine rd2 (fun K hK => ?_) AllReadyH.nil
    go_simp
    refine (V0.out _).mono ?_
    rintro e w' ⟨rfl, rfl⟩
    simp only []
    refine hK.out _ _ trivial (fun _ => ?_)
    clear hK K
    refine tk3 (v := .int .u32 x.i) (by kernel_rfl) (by kernel_rfl) (by kernel_rfl) (fun _ _ _ h => h) trivial (Or.inl ⟨by rfl, fun w hw => by go_simp; try (exact hxi)⟩) ?_
    simp only [Act.put, List.setIfInBounds_toArray, List.set_cons_zero, List.set_cons_succ]
    refine wpAnyH_ready (rs := [10]) (by kernel_rfl) (by simp) ?_
    refine rd10 (fun K hK => ?_) AllReadyH.nil
    go_simp
    refine (V1.out _).mono ?_
    rintro e w5 ⟨rfl, hb⟩
    simp only []
    replace X := hide (X.out.after hb)
    clear hb
    refine hK.out _ _ trivial (fun _ => ?_)
    clear hK K
    refine tk11 (v := itn7 x.i x.t x.o (lm x.a 0) (lm x.a 1) (lm x.a 2) (lm x.a 3)) (by kernel_rfl) (by kernel_rfl) (by kernel_rfl) (fun _ _ _ h => h) trivial (Or.inl ⟨by rfl, fun w hw => by go_simp; try (with_reducible rfl)⟩) ?_
    simp only [Act.put, List.setIfInBounds_toArray, List.set_cons_zero, List.set_cons_succ]
    refine wpAnyH_ready (rs := [13]) (by kernel_rfl) (by simp) ?_
    refine rd13 (fun K hK => ?_) AllReadyH.nil
    obtain ⟨y0, y1, y2, y3, y4, y5, y6, y7, y8⟩ := X.out.b7
    go_simp
    replace X := hide (X.out.put x.i x.t x.o (lm x.a 0) (lm x.a 1) (lm x.a 2) (lm x.a 3))
    clear y0 y1 y2 y3 y4 y5 y6 y7 y8
    refine hK.out _ _ trivial (fun _ => ?_)
    clear hK K
    refine wpAnyH_done (by kernel_rfl) ?_ _
    obtain ⟨w9, hw9⟩ : ∃ w9, ((((((w5.setCell ⟨g7, 0, none⟩ (.int .u32 x.i)).setCell ⟨g7, 1, none⟩ (.int .u8 x.t)).setCell ⟨g7, 2, none⟩ (.int .u8 x.o)).setCell ⟨g7, 3, none⟩ (.int .u64 (lm x.a 0))).setCell ⟨g7, 4, none⟩ (.int .u64 (lm x.a 1))).setCell ⟨g7, 5, none⟩ (.int .u64 (lm x.a 2))).setCell ⟨g7, 6, none⟩ (.int .u64 (lm x.a 3)) = w9 := ⟨_, rfl⟩
    rw [hw9]
    replace X : Hid (YR w w9 g2 g3 g4 S g7 x.i x.t x.o (lm x.a 0) (lm x.a 1) (lm x.a 2) (lm x.a 3)) := by rw [← hw9]; exact X
    clear hw9
    obtain ⟨y0, y1, y2, y3, y4, y5, y6, y7, y8⟩ := X.out.b7
    go_wp2_with fail
    clear y0 y1 y2 y3 y4 y5 y6 y7 y8
    refine (may_any x HX.out w9).mono ?_
    rintro e w10 ⟨rfl, hb⟩
    replace X := hide (X.out.after hb)
    clear hb
    obtain ⟨y0, y1, y2, y3, y4, y5, y6, y7, y8⟩ := X.out.b7
    obtain ⟨q1, q2, q3, q4⟩ := X.out.qr.qs.r2
    obtain ⟨p0, p1, p2, p3, p4, p5, p6, p7, p8⟩ := X.out.qr.qs.b3
    obtain ⟨r1, r2, r3, r4⟩ := X.out.qr.r2
    have n1 := X.out.qr.qs.ne
    have n2 := X.out.ne2
    have n3 := X.out.ne3
    have n4 := X.out.ne4
    obtain ⟨n5, n6⟩ := X.out.qr.ne
    cases hm : may x with
    | false =>
      go_wp2
      obtain ⟨D1, D2, D3⟩ := X.out.qr.qs.done ⟨#[]⟩ 6 0 0 0 0 0 0 0
      obtain ⟨d1, d2, d3, d4⟩ := D1
      obtain ⟨f0, f1, f2, f3, f4, f5, f6, f7, f8⟩ := D2
      exact bodyPost_ret (v := .tuple #[.agg #[.string ⟨#[]⟩, .int .i64 6], itn7 0 0 0 0 0 0 0]) (by simp [results, Try.results7, go_sem, d2, d3, f1, f2, f3, f4, f5, f6, f7]) rfl ⟨noItn, [], 6, by rw [noItn_V]; rfl, .inr (.inl ⟨rfl, HL.out, by rw [HI.out]; exact hm, rfl, rfl, rfl⟩), D3⟩
    | true =>
      go_wp2
      go_region
      obtain ⟨D1, D2, D3⟩ := X.out.qr.qs.done S 0 x.i x.t x.o (lm x.a 0) (lm x.a 1) (lm x.a 2) (lm x.a 3)
      obtain ⟨d1, d2, d3, d4⟩ := D1
      obtain ⟨f0, f1, f2, f3, f4, f5, f6, f7, f8⟩ := D2
      go_wp2
      exact bodyPost_ret (v := .tuple #[.agg #[.string S, .int .i64 0], itnV x]) (by simp [results, Try.results7, go_sem, d2, d3, f1, f2, f3, f4, f5, f6, f7]) rfl ⟨x, l.drop 38, 0, by simp only [rd, HSS.out], .inl ⟨rfl, HL.out, by rw [HI.out]; exact hm, HI.out.symm, rfl, rfl⟩, D3.drew⟩
end Go.Proofs.Ythcahgfoganehaa
