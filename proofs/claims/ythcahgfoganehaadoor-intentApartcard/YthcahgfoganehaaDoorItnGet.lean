/- Contracts of intent.Get and intent.Read over this translation. -/
import Derived.Test.YthcahgfoganehaaDoorItnPut
import Derived.Test.YthcahgfoganehaaDoorPackReader3
namespace Go.Proofs.YthcahgfoganehaaDoor
open Go.RowKit Go.Lib
attribute [local go_sem] setCell_drewN alloc_drewN

/-- A number of n bytes is read: what it is, what is left, the error. -/
def R8 (n : Nat) (l : List Int) (e v : Int) (l1 : List Int) (e1 : Int) : Prop :=
  (n ≤ l.length ∧ v = bval (l.take n) ∧ l1 = l.drop n ∧ e1 = e) ∨ (l.length < n ∧ v = 0 ∧ l1 = [] ∧ e1 = errOf e)
def RI (l : List Int) (e v : Int) (l1 : List Int) (e1 : Int) : Prop :=
  (32 ≤ l.length ∧ v = rv (fun j => l.getD j 0) 32 ∧ l1 = l.drop 32 ∧ e1 = e) ∨ (l.length < 32 ∧ v = 0 ∧ l1 = [] ∧ e1 = errOf e)
theorem Read8.parts {w w' : World} {g n : Nat} {rb : Option Nat} {l : List Int} {e v : Int} (h : Read8 w w' g n rb l e v) : ∃ l1 e1, R8 n l e v l1 e1 ∧ Rdr w' g rb l1 e1 ∧ Bar g w w' := by
  rcases h.1 with ⟨h1, h2, h3⟩ | ⟨h1, h2, h3⟩
  · exact ⟨_, _, .inl ⟨h1, h2, rfl, rfl⟩, h3, h.2⟩
  · exact ⟨_, _, .inr ⟨h1, h2, rfl, rfl⟩, h3, h.2⟩
theorem ReadI.parts {w w' : World} {g : Nat} {rb : Option Nat} {l : List Int} {e v : Int} (h : ReadI w w' g rb l e v) : ∃ l1 e1, RI l e v l1 e1 ∧ Rdr w' g rb l1 e1 ∧ Bar g w w' := by
  rcases h.1 with ⟨h1, h2, h3⟩ | ⟨h1, h2, h3⟩
  · exact ⟨_, _, .inl ⟨h1, h2, rfl, rfl⟩, h3, h.2⟩
  · exact ⟨_, _, .inr ⟨h1, h2, rfl, rfl⟩, h3, h.2⟩
theorem R8.byt {n : Nat} {l l1 : List Int} {e v e1 : Int} (h : R8 n l e v l1 e1) (hl : Byt l) : Byt l1 ∧ 0 ≤ v ∧ v < 256 ^ n := by
  rcases h with ⟨h1, rfl, rfl, _⟩ | ⟨_, rfl, rfl, _⟩
  · exact ⟨hl.drop n, bval_bd hl n h1⟩
  · exact ⟨fun x hx => by simp at hx, by omega, Int.pow_pos (by decide)⟩
theorem RI.ok {l l1 : List Int} {e v e1 : Int} (h : RI l e v l1 e1) (hl : Byt l) : In v := by
  rcases h with ⟨h1, rfl, rfl, _⟩ | ⟨_, rfl, rfl, _⟩
  · exact rv_in hl.get
  · exact in_zero
/-- The intent whose bytes come first. -/
def iof (l : List Int) : Itn := ⟨bval (l.take 4), bval ((l.drop 4).take 1), bval ((l.drop 5).take 1), rv (fun j => (l.drop 6).getD j 0) 32⟩
/-- What becomes of a reader that is asked for an intent. -/
def Got (l : List Int) (e : Int) (x : Itn) (l' : List Int) (e' : Int) : Prop :=
  (e = 0 ∧ 38 ≤ l.length ∧ may (iof l) = true ∧ x = iof l ∧ l' = l.drop 38 ∧ e' = 0) ∨
  (e = 0 ∧ 38 ≤ l.length ∧ may (iof l) = false ∧ x = noItn ∧ l' = [] ∧ e' = 6) ∨
  ((e ≠ 0 ∨ l.length < 38) ∧ x = noItn ∧ l' = [] ∧ e' = errOf e)
theorem errOf_ne (e : Int) : errOf e ≠ 0 := by unfold errOf; split <;> omega
theorem errOf_of {e : Int} (h : e ≠ 0) : errOf e = e := if_neg h
theorem iof_ok {l : List Int} (hl : Byt l) (h : 38 ≤ l.length) : (iof l).Ok := by
  have h1 := bval_bd hl 4 (by omega)
  have h2 := bval_bd (hl.drop 4) 1 (by simp; omega)
  have h3 := bval_bd (hl.drop 5) 1 (by simp; omega)
  exact ⟨by simpa [iof] using h1, by simpa [iof] using h2, by simpa [iof] using h3, rv_in (hl.drop 6).get⟩
/-- The four reads. -/
theorem chain {l l1 l2 l3 l4 : List Int} {e e1 e2 e3 e4 v1 v2 v3 v4 : Int} (h1 : R8 4 l e v1 l1 e1) (h2 : R8 1 l1 e1 v2 l2 e2) (h3 : R8 1 l2 e2 v3 l3 e3) (h4 : RI l3 e3 v4 l4 e4) (he : e ≠ 0 → l = []) :
    (e = 0 ∧ 38 ≤ l.length ∧ (⟨v1, v2, v3, v4⟩ : Itn) = iof l ∧ l4 = l.drop 38 ∧ e4 = 0) ∨ ((e ≠ 0 ∨ l.length < 38) ∧ l4 = [] ∧ e4 = errOf e) := by
  have hi : errOf (errOf e) = errOf e := errOf_of (errOf_ne e)
  rcases h1 with ⟨k1, rfl, rfl, rfl⟩ | ⟨k1, rfl, rfl, rfl⟩
  · rcases h2 with ⟨k2, rfl, rfl, rfl⟩ | ⟨k2, rfl, rfl, rfl⟩
    · rcases h3 with ⟨k3, rfl, rfl, rfl⟩ | ⟨k3, rfl, rfl, rfl⟩
      · rcases h4 with ⟨k4, rfl, rfl, rfl⟩ | ⟨k4, rfl, rfl, rfl⟩
        · have hl : 38 ≤ l.length := by simp at k4; omega
          have h0 : e4 = 0 := Classical.byContradiction fun hc => by rw [he hc] at hl; simp at hl
          exact .inl ⟨h0, hl, by simp [iof, List.drop_drop], by simp [List.drop_drop], h0⟩
        · exact .inr ⟨.inr (by simp at k4; omega), rfl, rfl⟩
      · rcases h4 with ⟨k4, _⟩ | ⟨_, rfl, rfl, rfl⟩
        · simp at k4
        · exact .inr ⟨.inr (by simp at k3; omega), rfl, hi⟩
    · rcases h3 with ⟨k3, _⟩ | ⟨_, rfl, rfl, rfl⟩
      · simp at k3
      · rcases h4 with ⟨k4, _⟩ | ⟨_, rfl, rfl, rfl⟩
        · simp at k4
        · exact .inr ⟨.inr (by simp at k2; omega), rfl, by rw [hi, hi]⟩
  · rcases h2 with ⟨k2, _⟩ | ⟨_, rfl, rfl, rfl⟩
    · simp at k2
    · rcases h3 with ⟨k3, _⟩ | ⟨_, rfl, rfl, rfl⟩
      · simp at k3
      · rcases h4 with ⟨k4, _⟩ | ⟨_, rfl, rfl, rfl⟩
        · simp at k4
        · exact .inr ⟨.inr (by omega), rfl, by rw [hi, hi, hi]⟩
/-- What stands while an intent is read. -/
structure GS7 (w0 w : World) (g : Nat) (rb : Option Nat) (l : List Int) (e : Int) (gr gb : Nat) (i t o a b c d : Int) : Prop where
  rdr : Rdr w g rb l e
  res : Bx w gr 0 0 0 0 0 0 0
  box : Bx w gb i t o a b c d
  bar : Bar g w0 w
  gr1 : gr ≠ g
  gb1 : gb ≠ g
  grb : gr ≠ gb
  rbr : rb ≠ some gr
  rbb : rb ≠ some gb
  low : w0.heap.size ≤ gr
  lowb : w0.heap.size ≤ gb
theorem GS7.read {w0 w w' : World} {g gr gb : Nat} {rb : Option Nat} {l l' : List Int} {e e' i t o a b c d : Int} (h : GS7 w0 w g rb l e gr gb i t o a b c d) (hr : Rdr w' g rb l' e') (hb : Bar g w w') : GS7 w0 w' g rb l' e' gr gb i t o a b c d :=
  ⟨hr, h.res.bar hb h.gr1, h.box.bar hb h.gb1, h.bar.trans hb, h.gr1, h.gb1, h.grb, h.rbr, h.rbb, h.low, h.lowb⟩
theorem GS7.after {w0 w w' : World} {g gr gb : Nat} {rb : Option Nat} {l : List Int} {e i t o a b c d : Int} (h : GS7 w0 w g rb l e gr gb i t o a b c d) (hb : Below w.heap.size w w') : GS7 w0 w' g rb l e gr gb i t o a b c d :=
  ⟨h.rdr.after hb rfl, h.res.after hb rfl, h.box.after hb rfl, h.bar.on hb, h.gr1, h.gb1, h.grb, h.rbr, h.rbb, h.low, h.lowb⟩
theorem GS7.set {w0 w : World} {g gr gb : Nat} {rb : Option Nat} {l : List Int} {e i t o a b c d i' t' o' a' b' c' d' : Int} (h : GS7 w0 w g rb l e gr gb i t o a b c d) (j : Nat) (v : Value) (hb : Bx (w.setCell ⟨gb, j, none⟩ v) gb i' t' o' a' b' c' d') : GS7 w0 (w.setCell ⟨gb, j, none⟩ v) g rb l e gr gb i' t' o' a' b' c' d' :=
  ⟨h.rdr.other (p := ⟨gb, j, none⟩) h.gb1.symm h.rbb v, h.res.other (p := ⟨gb, j, none⟩) h.grb v, hb, h.bar.new (p := ⟨gb, j, none⟩) h.lowb v, h.gr1, h.gb1, h.grb, h.rbr, h.rbb, h.low, h.lowb⟩
theorem GS7.putA {w0 w : World} {g gr gb : Nat} {rb : Option Nat} {l : List Int} {e i t o a b c d : Int} (h : GS7 w0 w g rb l e gr gb i t o a b c d) (a' b' c' d' : Int) : GS7 w0 (putA w gb a' b' c' d') g rb l e gr gb i t o a' b' c' d' :=
  ⟨(((h.rdr.other (p := ⟨gb, 3, none⟩) h.gb1.symm h.rbb _).other (p := ⟨gb, 4, none⟩) h.gb1.symm h.rbb _).other (p := ⟨gb, 5, none⟩) h.gb1.symm h.rbb _).other (p := ⟨gb, 6, none⟩) h.gb1.symm h.rbb _,
    (((h.res.other (p := ⟨gb, 3, none⟩) h.grb _).other (p := ⟨gb, 4, none⟩) h.grb _).other (p := ⟨gb, 5, none⟩) h.grb _).other (p := ⟨gb, 6, none⟩) h.grb _, h.box.putA a' b' c' d',
    (((h.bar.new (p := ⟨gb, 3, none⟩) h.lowb _).new (p := ⟨gb, 4, none⟩) h.lowb _).new (p := ⟨gb, 5, none⟩) h.lowb _).new (p := ⟨gb, 6, none⟩) h.lowb _, h.gr1, h.gb1, h.grb, h.rbr, h.rbb, h.low, h.lowb⟩
/-- The result's box is written. -/
theorem GS7.done {w0 w : World} {g gr gb : Nat} {rb : Option Nat} {l : List Int} {e i t o a b c d : Int} (h : GS7 w0 w g rb l e gr gb i t o a b c d) (i' t' o' a' b' c' d' : Int) : Rdr (put7 w gr i' t' o' a' b' c' d') g rb l e ∧ Bar g w0 (put7 w gr i' t' o' a' b' c' d') ∧ Bx (put7 w gr i' t' o' a' b' c' d') gr i' t' o' a' b' c' d' :=
  ⟨((((((h.rdr.other (p := ⟨gr, 0, none⟩) h.gr1.symm h.rbr _).other (p := ⟨gr, 1, none⟩) h.gr1.symm h.rbr _).other (p := ⟨gr, 2, none⟩) h.gr1.symm h.rbr _).other (p := ⟨gr, 3, none⟩) h.gr1.symm h.rbr _).other (p := ⟨gr, 4, none⟩) h.gr1.symm h.rbr _).other (p := ⟨gr, 5, none⟩) h.gr1.symm h.rbr _).other (p := ⟨gr, 6, none⟩) h.gr1.symm h.rbr _,
    ((((((h.bar.new (p := ⟨gr, 0, none⟩) h.low _).new (p := ⟨gr, 1, none⟩) h.low _).new (p := ⟨gr, 2, none⟩) h.low _).new (p := ⟨gr, 3, none⟩) h.low _).new (p := ⟨gr, 4, none⟩) h.low _).new (p := ⟨gr, 5, none⟩) h.low _).new (p := ⟨gr, 6, none⟩) h.low _, h.res.put _ _ _ _ _ _ _⟩
theorem GS7.new {w : World} {g : Nat} {rb : Option Nat} {l : List Int} {e : Int} (h : Rdr w g rb l e) (t1 t2 : TypeId) {gr gb : Nat} (h1 : w.heap.size = gr) (h2 : w.heap.size + 1 = gb) :
    GS7 w ((w.alloc (.cells #[.int .u32 0, .int .u8 0, .int .u8 0, .int .u64 0, .int .u64 0, .int .u64 0, .int .u64 0] t1)).alloc (.cells #[.int .u32 0, .int .u8 0, .int .u8 0, .int .u64 0, .int .u64 0, .int .u64 0, .int .u64 0] t2)) g rb l e gr gb 0 0 0 0 0 0 0 := by
  subst h1 h2
  have hl := h.lt
  exact ⟨(h.past _).past _, (Bx.new w _ _ _ _ _ _ _ _ rfl).past _, Bx.new _ _ _ _ _ _ _ _ _ (by simp), Bar.of (bAl (bAl (bMe w))), by omega, by omega, by omega, fun e => by have := hl.2.1 _ e; omega, fun e => by have := hl.2.1 _ e; omega, Nat.le_refl _, by omega⟩
/-- An intent was read. -/
def ReadN (w w' : World) (g : Nat) (rb : Option Nat) (l : List Int) (e : Int) (r : Ending) : Prop := ∃ x l' e', r = .returned (itnV x) ∧ Got l e x l' e' ∧ Rdr w' g rb l' e' ∧ Bar g w w'
theorem Fell.parts {w' : World} {g : Nat} {rb : Option Nat} {l : List Int} {e x : Int} (h : Fell w' g rb l e x) : ∃ l1 e1, ((x = 0 ∨ e ≠ 0) ∧ l1 = l ∧ e1 = e ∨ (x ≠ 0 ∧ e = 0) ∧ l1 = [] ∧ e1 = x) ∧ Rdr w' g rb l1 e1 := by
  unfold Fell at h
  by_cases hc : x = 0 ∨ e ≠ 0
  · rw [if_pos hc] at h
    exact ⟨_, _, .inl ⟨hc, rfl, rfl⟩, h⟩
  · rw [if_neg hc] at h
    exact ⟨_, _, .inr ⟨⟨fun h => hc (.inl h), Classical.byContradiction fun h => hc (.inr h)⟩, rfl, rfl⟩, h⟩
theorem fell_got {l l4 l5 : List Int} {e e4 e5 : Int} {x : Itn} (h : (e = 0 ∧ 38 ≤ l.length ∧ x = iof l ∧ l4 = l.drop 38 ∧ e4 = 0) ∨ ((e ≠ 0 ∨ l.length < 38) ∧ l4 = [] ∧ e4 = errOf e))
    (hf : (chk x = 0 ∨ e4 ≠ 0) ∧ l5 = l4 ∧ e5 = e4 ∨ (chk x ≠ 0 ∧ e4 = 0) ∧ l5 = [] ∧ e5 = chk x) : (e5 = 0 → Got l e x l5 e5) ∧ (e5 ≠ 0 → Got l e noItn l5 e5) := by
  unfold Got
  rcases h with ⟨h0, h1, rfl, rfl, rfl⟩ | ⟨h0, rfl, rfl⟩
  · unfold chk at hf
    by_cases hm : may (iof l) = true
    · rw [if_pos hm] at hf
      rcases hf with ⟨_, rfl, rfl⟩ | ⟨⟨h, _⟩, _⟩
      · exact ⟨fun _ => .inl ⟨h0, h1, hm, rfl, rfl, rfl⟩, fun h => absurd rfl h⟩
      · exact absurd rfl h
    · rw [if_neg hm] at hf
      rcases hf with ⟨h, _⟩ | ⟨_, rfl, rfl⟩
      · rcases h with h | h
        · omega
        · exact absurd rfl h
      · exact ⟨fun h => by omega, fun _ => .inr (.inl ⟨h0, h1, by simpa using hm, rfl, rfl, rfl⟩)⟩
  · have hn := errOf_ne e
    rcases hf with ⟨_, rfl, rfl⟩ | ⟨⟨_, h⟩, _⟩
    · exact ⟨fun h => absurd h hn, fun _ => .inr (.inr ⟨h0, rfl, rfl, rfl⟩)⟩
    · exact absurd h hn
set_option maxHeartbeats 4000000 in
theorem get_any {w : World} {g : Nat} {rb : Option Nat} {l : List Int} {e : Int} (h : Rdr w g rb l e) (hl : Byt l) :
    Calls Tryd.prog 20 #[.pointer (some ⟨g, 0, none⟩)] w fun r w' => ReadN w w' g rb l e r := by
  have G := hide (GS7.new h 27 27 rfl rfl)
  have HE := hide h.lt.2.2.2
  have HL := hide hl
  clear h hl
  go_enter Tryd.func20, Tryd.ntmps20
  go_wp2_with fail
  generalize ((w.alloc (.cells #[.int .u32 0, .int .u8 0, .int .u8 0, .int .u64 0, .int .u64 0, .int .u64 0, .int .u64 0] 27)).alloc (.cells #[.int .u32 0, .int .u8 0, .int .u8 0, .int .u64 0, .int .u64 0, .int .u64 0, .int .u64 0] 27)) = w1 at *
  generalize w.heap.size + 1 = gb at *
  generalize w.heap.size = gr at *
  refine (ru32_any G.out.rdr HL.out).mono ?_
  rintro r w2 ⟨v1, rfl, hr⟩
  obtain ⟨l1, e1, R1, hr1, hb⟩ := hr.parts
  have C1 := hide R1
  replace G := hide (G.out.read hr1 hb)
  clear hr R1 hr1 hb
  obtain ⟨HL1, v10, v11⟩ := C1.out.byt HL.out
  replace HL1 := hide HL1
  obtain ⟨p0, p1, p2, p3, p4, p5, p6, p7, p8⟩ := G.out.box
  go_wp2_with fail
  clear p0 p1 p2 p3 p4 p5 p6 p7 p8
  replace G := hide (G.out.set 0 (.int .u32 v1) (G.out.box.set0 v1))
  generalize w2.setCell ⟨gb, 0, none⟩ (.int .u32 v1) = w3 at *
  refine (ru8_any G.out.rdr HL1.out).mono ?_
  rintro r w4 ⟨v2, rfl, hr⟩
  obtain ⟨l2, e2, R1, hr1, hb⟩ := hr.parts
  have C2 := hide R1
  replace G := hide (G.out.read hr1 hb)
  clear hr R1 hr1 hb
  obtain ⟨HL2, v20, v21⟩ := C2.out.byt HL1.out
  replace HL2 := hide HL2
  obtain ⟨p0, p1, p2, p3, p4, p5, p6, p7, p8⟩ := G.out.box
  go_wp2_with fail
  clear p0 p1 p2 p3 p4 p5 p6 p7 p8
  replace G := hide (G.out.set 1 (.int .u8 v2) (G.out.box.set1 v2))
  generalize w4.setCell ⟨gb, 1, none⟩ (.int .u8 v2) = w5 at *
  refine (ru8_any G.out.rdr HL2.out).mono ?_
  rintro r w6 ⟨v3, rfl, hr⟩
  obtain ⟨l3, e3, R1, hr1, hb⟩ := hr.parts
  have C3 := hide R1
  replace G := hide (G.out.read hr1 hb)
  clear hr R1 hr1 hb
  obtain ⟨HL3, v30, v31⟩ := C3.out.byt HL2.out
  replace HL3 := hide HL3
  obtain ⟨p0, p1, p2, p3, p4, p5, p6, p7, p8⟩ := G.out.box
  go_wp2_with fail
  clear p0 p1 p2 p3 p4 p5 p6 p7 p8
  replace G := hide (G.out.set 2 (.int .u8 v3) (G.out.box.set2 v3))
  generalize w6.setCell ⟨gb, 2, none⟩ (.int .u8 v3) = w7 at *
  refine (rint_any G.out.rdr HL3.out).mono ?_
  rintro r w8 ⟨v4, rfl, hr⟩
  obtain ⟨l4, e4, R1, hr1, hb⟩ := hr.parts
  have C4 := hide R1
  replace G := hide (G.out.read hr1 hb)
  clear hr R1 hr1 hb
  have HV4 := hide (C4.out.ok HL3.out)
  have HX : Hid (Itn.Ok ⟨v1, v2, v3, v4⟩) := ⟨⟨v10, by simpa using v11⟩, ⟨v20, by simpa using v21⟩, ⟨v30, by simpa using v31⟩, HV4.out⟩
  have CH := hide (chain C1.out C2.out C3.out C4.out HE.out)
  clear v10 v11 v20 v21 v30 v31 HV4 C1 C2 C3 C4 HL1 HL2 HL3
  obtain ⟨p0, p1, p2, p3, p4, p5, p6, p7, p8⟩ := G.out.box
  go_wp2_with fail
  clear p0 p1 p2 p3 p4 p5 p6 p7 p8
  obtain ⟨w9, hw9⟩ : ∃ w9, (((w8.setCell ⟨gb, 3, none⟩ (.int .u64 (lm v4 0))).setCell ⟨gb, 4, none⟩ (.int .u64 (lm v4 1))).setCell ⟨gb, 5, none⟩ (.int .u64 (lm v4 2))).setCell ⟨gb, 6, none⟩ (.int .u64 (lm v4 3)) = w9 := ⟨_, rfl⟩
  rw [hw9]
  replace G : Hid (GS7 w w9 g rb l4 e4 gr gb v1 v2 v3 (lm v4 0) (lm v4 1) (lm v4 2) (lm v4 3)) := by rw [← hw9]; exact hide (G.out.putA (lm v4 0) (lm v4 1) (lm v4 2) (lm v4 3))
  clear hw9
  refine (check_any ⟨v1, v2, v3, v4⟩ HX.out w9).mono ?_
  rintro r w10 ⟨rfl, hb⟩
  replace G := hide (G.out.after hb)
  clear hb
  obtain ⟨C, hC⟩ : ∃ C, chk ⟨v1, v2, v3, v4⟩ = C := ⟨_, rfl⟩
  rw [hC]
  go_wp2_with fail
  refine (fail_any G.out.rdr C).mono ?_
  rintro r w11 ⟨rfl, hf, hb⟩
  obtain ⟨l5, e5, F, hr1⟩ := hf.parts
  have GG := hide (fell_got CH.out (by rw [hC]; exact F))
  replace G := hide (G.out.read hr1 hb)
  clear hf hb F hr1 CH hC
  go_wp2_with fail
  refine (err_any G.out.rdr).mono ?_
  rintro r w12 ⟨rfl, rfl⟩
  obtain ⟨p0, p1, p2, p3, p4, p5, p6, p7, p8⟩ := G.out.box
  obtain ⟨q0, q1, q2, q3, q4, q5, q6, q7, q8⟩ := G.out.res
  by_cases he : e5 = 0
  · subst he
    go_wp2
    obtain ⟨D1, D2, D3⟩ := G.out.done v1 v2 v3 (lm v4 0) (lm v4 1) (lm v4 2) (lm v4 3)
    have hlv := run_loadVar_mid (P := Tryd.prog) _ _ _ _ _ _ D3.range Tryd.underlying27 rfl (by kernel_rfl)
    exact bodyPost_ret (v := itnV ⟨v1, v2, v3, v4⟩) (results_one Tryd.results20 rfl hlv) rfl ⟨⟨v1, v2, v3, v4⟩, l5, 0, rfl, GG.out.1 (by simp), D1, D2⟩
  · have he' : (e5 != 0) = true := by simpa using he
    go_wp2
    obtain ⟨D1, D2, D3⟩ := G.out.done 0 0 0 0 0 0 0
    have hlv := run_loadVar_mid (P := Tryd.prog) _ _ _ _ _ _ D3.range Tryd.underlying27 rfl (by kernel_rfl)
    exact bodyPost_ret (v := itn7 0 0 0 0 0 0 0) (results_one Tryd.results20 rfl hlv) rfl ⟨noItn, l5, e5, by rw [noItn_V], GG.out.2 he, D1, D2⟩
/-- What is read of bytes. -/
def ReadA (l : List Int) (x : Itn) (e : Int) : Prop := ∃ x1 l1 e1, Got l 0 x1 l1 e1 ∧ e = endOf l1 e1 ∧ ((e = 0 ∧ x = x1) ∨ (e ≠ 0 ∧ x = noItn))
theorem Rdr.put7 {w : World} {g : Nat} {rb : Option Nat} {l : List Int} {e : Int} (h : Rdr w g rb l e) {gr : Nat} (h1 : g ≠ gr) (h2 : rb ≠ some gr) (i t o a b c d : Int) : Rdr (put7 w gr i t o a b c d) g rb l e :=
  ((((((h.other (p := ⟨gr, 0, none⟩) h1 h2 _).other (p := ⟨gr, 1, none⟩) h1 h2 _).other (p := ⟨gr, 2, none⟩) h1 h2 _).other (p := ⟨gr, 3, none⟩) h1 h2 _).other (p := ⟨gr, 4, none⟩) h1 h2 _).other (p := ⟨gr, 5, none⟩) h1 h2 _).other (p := ⟨gr, 6, none⟩) h1 h2 _
theorem Bx.put7o {w : World} {g gr : Nat} {i t o a b c d : Int} (h : Bx w g i t o a b c d) (h1 : g ≠ gr) (i' t' o' a' b' c' d' : Int) : Bx (put7 w gr i' t' o' a' b' c' d') g i t o a b c d :=
  ((((((h.other (p := ⟨gr, 0, none⟩) h1 _).other (p := ⟨gr, 1, none⟩) h1 _).other (p := ⟨gr, 2, none⟩) h1 _).other (p := ⟨gr, 3, none⟩) h1 _).other (p := ⟨gr, 4, none⟩) h1 _).other (p := ⟨gr, 5, none⟩) h1 _).other (p := ⟨gr, 6, none⟩) h1 _
/-- What stands when an intent was read. -/
structure AS7 (w0 w : World) (g : Nat) (rb : Option Nat) (l : List Int) (e : Int) (gr gb : Nat) (i t o a b c d : Int) : Prop where
  rdr : Rdr w g rb l e
  res : Bx w gr 0 0 0 0 0 0 0
  box : Bx w gb i t o a b c d
  grb : gr ≠ gb
  low : w0.heap.size ≤ gr
  below : Below w0.heap.size w0 w
set_option maxHeartbeats 4000000 in
theorem read_any {w : World} (so : Option Addr) (c : Nat) (l : List Int) (hs : At w so l) (hso : so = none → c = 0) (hl : Byt l) (hll : l.length ≤ 1000000) :
    Calls Tryd.prog 7 #[.slice so l.length c] w fun r w' => ∃ x e, r = .returned (.tuple #[itnV x, .int .i64 e]) ∧ ReadA l x e ∧ Below w.heap.size w w' := by
  have HS := hide hs; have HSO := hide hso; have HL := hide hl
  clear hs hso hl
  have P := hide (Bx.new w 0 0 0 0 0 0 0 27 rfl)
  have B : Hid (Below w.heap.size w (w.alloc (.cells #[.int .u32 0, .int .u8 0, .int .u8 0, .int .u64 0, .int .u64 0, .int .u64 0, .int .u64 0] 27))) := bAl (bMe w)
  go_enter Tryd.func7, Tryd.ntmps7
  go_wp2_with fail
  generalize w.alloc (.cells #[.int .u32 0, .int .u8 0, .int .u8 0, .int .u64 0, .int .u64 0, .int .u64 0, .int .u64 0] 27) = w1 at *
  refine (rof_any so c l (HS.out.below B.out) HSO.out hll).mono ?_
  rintro r w2 ⟨g, rb, rfl, hr, hg, hrb, hb⟩
  have R := hide hr
  have HG : Hid (w.heap.size < g ∧ ∀ k, rb = some k → w.heap.size < k) := by
    have h1 := P.out.lt
    exact ⟨by omega, fun k hk => by have := hrb k hk; omega⟩
  replace P := hide (P.out.after hb rfl)
  replace B := hide (bOn B.out hb)
  clear hr hg hrb hb
  go_wp2_with fail
  refine (get_any R.out HL.out).mono ?_
  rintro r w3 ⟨x, l1, e1, rfl, hgot, hr, hb⟩
  have GT := hide hgot
  replace R := hide hr
  replace P := hide (P.out.bar hb (by have := HG.out.1; omega))
  replace B := hide (hb.below B.out (by have := HG.out.1; omega) B.out.size)
  clear hgot hr hb
  have A : Hid (AS7 w (w3.alloc (.cells #[.int .u32 x.i, .int .u8 x.t, .int .u8 x.o, .int .u64 (lm x.a 0), .int .u64 (lm x.a 1), .int .u64 (lm x.a 2), .int .u64 (lm x.a 3)] 27)) g rb l1 e1 w.heap.size w3.heap.size x.i x.t x.o (lm x.a 0) (lm x.a 1) (lm x.a 2) (lm x.a 3)) := by
    have hp := P.out.lt
    exact ⟨R.out.past _, P.out.past _, Bx.new w3 _ _ _ _ _ _ _ _ rfl, by omega, Nat.le_refl _, bAl B.out⟩
  clear P B R HG
  go_wp2_with fail
  generalize w3.alloc (.cells #[.int .u32 x.i, .int .u8 x.t, .int .u8 x.o, .int .u64 (lm x.a 0), .int .u64 (lm x.a 1), .int .u64 (lm x.a 2), .int .u64 (lm x.a 3)] 27) = w4 at *
  refine (end_any A.out.rdr).mono ?_
  rintro r w5 ⟨rfl, rfl⟩
  obtain ⟨p0, p1, p2, p3, p4, p5, p6, p7, p8⟩ := A.out.box
  obtain ⟨q0, q1, q2, q3, q4, q5, q6, q7, q8⟩ := A.out.res
  have hrb := A.out.grb
  obtain ⟨E, hE⟩ : ∃ E, endOf l1 e1 = E := ⟨_, rfl⟩
  rw [hE]
  have HE := hide hE
  clear hE
  generalize w3.heap.size = gb at *
  by_cases he : E = 0
  · have RA : Hid (ReadA l x E) := ⟨x, l1, e1, GT.out, HE.out.symm, .inl ⟨he, rfl⟩⟩
    clear HE GT
    subst he
    go_wp2
    have D := hide (A.out.res.put x.i x.t x.o (lm x.a 0) (lm x.a 1) (lm x.a 2) (lm x.a 3))
    obtain ⟨d0, d1, d2, d3, d4, d5, d6, d7, d8⟩ := D.out
    refine bodyPost_ret (v := .tuple #[itnV x, .int .i64 0]) (by simp [results, Tryd.results7, go_sem, d1, d2, d3, d4, d5, d6, d7]) rfl ⟨x, 0, rfl, RA.out, put7_below A.out.below (Nat.le_refl _)⟩
  · have he' : (E != 0) = true := by simpa using he
    have RA : Hid (ReadA l noItn E) := ⟨x, l1, e1, GT.out, HE.out.symm, .inr ⟨he, rfl⟩⟩
    clear HE GT
    go_wp2
    refine bodyPost_ret (v := .tuple #[itn7 0 0 0 0 0 0 0, .int .i64 E]) (by simp [results, Tryd.results7, go_sem, q1, q2, q3, q4, q5, q6, q7]) rfl ⟨noItn, E, by rw [noItn_V], RA.out, put7_below A.out.below (Nat.le_refl _)⟩
end Go.Proofs.YthcahgfoganehaaDoor
