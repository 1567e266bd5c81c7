/- The contracts of event.get and event.Read over this translation. -/
import Derived.Test.YtajkdbpojeaflaaEvtRows
import Derived.Test.YtajkdbpojeaflaaRdParts
import Derived.Laws.IdiomCopy
namespace Go.Proofs.Ytajkdbpojeaflaa
open Go.RowKit Go.Lib
attribute [local go_sem] setCell_drewN alloc_drewN

/-- The event whose bytes come first. -/
def eof9 (l : List Int) : Evt := ⟨bval (l.take 1), bval ((l.drop 1).take 8), fun j => ((l.drop 9).take 32).getD j 0, bval ((l.drop 41).take 1), bval ((l.drop 42).take 1), bval ((l.drop 43).take 1), bval ((l.drop 44).take 1), rv (fun j => (l.drop 45).getD j 0) 32, rv (fun j => (l.drop 77).getD j 0) 32, bval ((l.drop 109).take 4)⟩
/-- What becomes of a reader that is asked for an event. -/
def GotE (l : List Int) (e : Int) (x : Evt) (l' : List Int) (e' : Int) : Prop :=
  (e = 0 ∧ 113 ≤ l.length ∧ mayE (eof9 l) = true ∧ x = eof9 l ∧ l' = l.drop 113 ∧ e' = 0) ∨
  (e = 0 ∧ 113 ≤ l.length ∧ mayE (eof9 l) = false ∧ l' = [] ∧ e' = 6) ∨
  ((e ≠ 0 ∨ l.length < 113) ∧ l' = [] ∧ e' = errOf e)
/-- What stands while an event is read. -/
structure GS9 (w0 w : World) (g : Nat) (rb : Option Nat) (l : List Int) (e : Int) (gr gb : Nat) (x : Evt) : Prop where
  rdr : Rdr w g rb l e
  res : VRow w gr (ec noEvt)
  box : VRow w gb (ec x)
  bar : Bar g w0 w
  gr1 : gr ≠ g
  gb1 : gb ≠ g
  grb : gr ≠ gb
  rbr : rb ≠ some gr
  rbb : rb ≠ some gb
  low : w0.heap.size ≤ gr
  lowb : w0.heap.size ≤ gb
theorem VRow.bar {w w' : World} {g g' : Nat} {vs : List Value} (h : VRow w g vs) (hb : Bar g' w w') (hne : g ≠ g') : VRow w' g vs := h.of hb.size (hb.block g h.lt hne)
theorem GS9.read {w0 w w' : World} {g gr gb : Nat} {rb : Option Nat} {l l' : List Int} {e e' : Int} {x : Evt} (h : GS9 w0 w g rb l e gr gb x) (hr : Rdr w' g rb l' e') (hb : Bar g w w') : GS9 w0 w' g rb l' e' gr gb x :=
  ⟨hr, h.res.bar hb h.gr1, h.box.bar hb h.gb1, h.bar.trans hb, h.gr1, h.gb1, h.grb, h.rbr, h.rbb, h.low, h.lowb⟩
theorem GS9.after {w0 w w' : World} {g gr gb : Nat} {rb : Option Nat} {l : List Int} {e : Int} {x : Evt} (h : GS9 w0 w g rb l e gr gb x) (hb : Below w.heap.size w w') : GS9 w0 w' g rb l e gr gb x :=
  ⟨h.rdr.after hb rfl, h.res.after hb rfl, h.box.after hb rfl, h.bar.on hb, h.gr1, h.gb1, h.grb, h.rbr, h.rbb, h.low, h.lowb⟩
/-- One cell is stored. -/
theorem VRow.set {w : World} {g : Nat} {vs : List Value} (h : VRow w g vs) (j : Nat) (v : Value) : VRow (w.setCell ⟨g, j, none⟩ v) g (vs.set j v) := by
  refine ⟨by simpa [World.setCell] using h.lt, fun i u hu => ?_, fun o => by simp [go_sem, h.fr]⟩
  rw [Nat.zero_add]
  rw [List.getElem?_set] at hu
  by_cases e : j = i
  · subst e
    by_cases hl : j < vs.length
    · simp [hl] at hu; subst hu
      have hc := h.cell j (v := vs[j]) (by simp [hl])
      simp [go_sem, hc]
    · simp [hl] at hu
  · rw [if_neg e] at hu
    have hc := h.cell i hu
    simp [go_sem, hc]
theorem VRow.other {w : World} {g : Nat} {vs : List Value} (h : VRow w g vs) {p : Addr} (hp : g ≠ p.block) (v : Value) : VRow (w.setCell p v) g vs := h.of (by simp [World.setCell]) (Below.heap_setCell _ _ _ _ hp)
theorem GS9.set {w0 w : World} {g gr gb : Nat} {rb : Option Nat} {l : List Int} {e : Int} {x x' : Evt} (h : GS9 w0 w g rb l e gr gb x) (j : Nat) (v : Value) (hx : (ec x).set j v = ec x') : GS9 w0 (w.setCell ⟨gb, j, none⟩ v) g rb l e gr gb x' :=
  ⟨h.rdr.other (p := ⟨gb, j, none⟩) h.gb1.symm h.rbb v, h.res.other (p := ⟨gb, j, none⟩) h.grb v, by rw [← hx]; exact h.box.set j v, h.bar.new (p := ⟨gb, j, none⟩) h.lowb v, h.gr1, h.gb1, h.grb, h.rbr, h.rbb, h.low, h.lowb⟩
theorem Rdr.setAt {w : World} {g : Nat} {rb : Option Nat} {l : List Int} {e : Int} (h : Rdr w g rb l e) {g' : Nat} (h1 : g ≠ g') (h2 : rb ≠ some g') (o : Nat) (vs : List Value) : Rdr (w.setCells g' o vs) g rb l e := by
  obtain ⟨ao, cap, h⟩ := h
  exact ⟨ao, cap, h.of (by rw [setCells_size]; exact Nat.le_refl _) (setCells_block _ _ _ _ _ h1) (fun k hk => setCells_block _ _ _ _ _ (fun e => h2 (by rw [← e]; exact hk)))⟩
theorem Bar.setAt {g : Nat} {a w : World} (h : Bar g a w) {g' : Nat} (hp : a.heap.size ≤ g') (o : Nat) (vs : List Value) : Bar g a (w.setCells g' o vs) := by
  obtain ⟨o1, o2, o3⟩ := setCells_os g' vs o w
  exact ⟨o1.trans h.os, o2.trans h.tape, o3.trans h.output, by rw [setCells_size]; exact h.size, fun k hk hne => by rw [setCells_block _ _ _ _ _ (by omega)]; exact h.block k hk hne⟩
theorem VRow.offAt {w : World} {g g' : Nat} {vs : List Value} (h : VRow w g vs) (hne : g ≠ g') (o : Nat) (us : List Value) : VRow (w.setCells g' o us) g vs := h.of (by rw [setCells_size]; exact Nat.le_refl _) (setCells_block _ _ _ _ _ hne)
theorem VRow.thereAt {w : World} {g : Nat} {vs : List Value} (h : VRow w g vs) (o n : Nat) (hn : o + n ≤ vs.length) : w.there g o n := by
  intro j hj
  have hl : o + j < vs.length := by omega
  exact ⟨by rw [h.cell (o + j) (v := vs[o + j]) (by simp [hl])]; rfl, h.fr _⟩
/-- A sum is stored into an event's box. -/
theorem VRow.seth {w : World} {g : Nat} {x : Evt} (h : VRow w g (ec x)) (f : Nat → Int) : VRow (w.setCells g 2 (rowV 32 f)) g (ec { x with h := f }) := by
  have ht := h.thereAt 2 32 (by rw [ec_length]; omega)
  refine ⟨by rw [setCells_size]; exact h.lt, fun i u hu => ?_, fun o => by rw [World.frozen?_setCells]; exact h.fr o⟩
  rw [Nat.zero_add]
  have hi : i < 47 := by have := (List.getElem?_eq_some_iff.1 hu).1; rwa [ec_length] at this
  by_cases h1 : 2 ≤ i ∧ i < 34
  · obtain ⟨j, rfl⟩ : ∃ j, i = 2 + j := ⟨i - 2, by omega⟩
    rw [ec_hash _ (by omega)] at hu
    have := World.rangeAt_setCells_same w g 2 (rowV 32 f) (by rw [rowV_length]; exact ht) j (.int .u8 (f j)) (rowV_get (by omega))
    rw [this, ← hu]
  · have hs : (w.setCells g 2 (rowV 32 f)).cell? ⟨g, i, none⟩ = w.cell? ⟨g, i, none⟩ := World.cell?_setCells_out g (rowV 32 f) 2 w ⟨g, i, none⟩ (fun _ _ => by rw [rowV_length]; simp only []; omega)
    rw [hs]
    refine h.cell i ?_
    by_cases h2 : i < 2
    · have hi2 : i = 0 ∨ i = 1 := by omega
      rcases hi2 with rfl | rfl
      · rw [← hu]; rfl
      · rw [← hu]; rfl
    · obtain ⟨j, rfl⟩ : ∃ j, i = 34 + j := ⟨i - 34, by omega⟩
      rw [ec_tail] at hu ⊢
      exact hu
theorem VRow.stored {w : World} {g : Nat} {vs : List Value} (h : VRow w g vs) (us : List Value) (hl : us.length = vs.length) : VRow (w.setCells g 0 us) g us :=
  ⟨by rw [setCells_size]; exact h.lt, World.rangeAt_setCells_same w g 0 us (h.thereAt 0 us.length (by omega)), fun o => by rw [World.frozen?_setCells]; exact h.fr o⟩
theorem ec_k (x : Evt) (v : Int) : (ec x).set 0 (.int .u8 v) = ec { x with k := v } := rfl
theorem ec_b (x : Evt) (v : Int) : (ec x).set 1 (.int .u64 v) = ec { x with b := v } := rfl
theorem ec_s (x : Evt) (v : Int) : (ec x).set 34 (.int .u8 v) = ec { x with s := v } := by kernel_rfl
theorem ec_t (x : Evt) (v : Int) : (ec x).set 35 (.int .u8 v) = ec { x with t := v } := by kernel_rfl
theorem ec_f (x : Evt) (v : Int) : (ec x).set 36 (.int .u8 v) = ec { x with f := v } := by kernel_rfl
theorem ec_u (x : Evt) (v : Int) : (ec x).set 37 (.int .u8 v) = ec { x with u := v } := by kernel_rfl
theorem ec_a (x : Evt) (v : Int) : ((((ec x).set 38 (.int .u64 (lm v 0))).set 39 (.int .u64 (lm v 1))).set 40 (.int .u64 (lm v 2))).set 41 (.int .u64 (lm v 3)) = ec { x with a := v } := by kernel_rfl
theorem ec_c (x : Evt) (v : Int) : ((((ec x).set 42 (.int .u64 (lm v 0))).set 43 (.int .u64 (lm v 1))).set 44 (.int .u64 (lm v 2))).set 45 (.int .u64 (lm v 3)) = ec { x with c := v } := by kernel_rfl
theorem ec_n (x : Evt) (v : Int) : (ec x).set 46 (.int .u32 v) = ec { x with n := v } := by kernel_rfl
theorem GS9.new {w : World} {g : Nat} {rb : Option Nat} {l : List Int} {e : Int} (h : Rdr w g rb l e) {gr gb : Nat} (h1 : w.heap.size = gr) (h2 : w.heap.size + 1 = gb) :
    GS9 w ((w.alloc (.cells #[.int .u8 0, .int .u64 0, .int .u8 0, .int .u8 0, .int .u8 0, .int .u8 0, .int .u8 0, .int .u8 0, .int .u8 0, .int .u8 0, .int .u8 0, .int .u8 0, .int .u8 0, .int .u8 0, .int .u8 0, .int .u8 0, .int .u8 0, .int .u8 0, .int .u8 0, .int .u8 0, .int .u8 0, .int .u8 0, .int .u8 0, .int .u8 0, .int .u8 0, .int .u8 0, .int .u8 0, .int .u8 0, .int .u8 0, .int .u8 0, .int .u8 0, .int .u8 0, .int .u8 0, .int .u8 0, .int .u8 0, .int .u8 0, .int .u8 0, .int .u8 0, .int .u64 0, .int .u64 0, .int .u64 0, .int .u64 0, .int .u64 0, .int .u64 0, .int .u64 0, .int .u64 0, .int .u32 0] 40)).alloc (.cells #[.int .u8 0, .int .u64 0, .int .u8 0, .int .u8 0, .int .u8 0, .int .u8 0, .int .u8 0, .int .u8 0, .int .u8 0, .int .u8 0, .int .u8 0, .int .u8 0, .int .u8 0, .int .u8 0, .int .u8 0, .int .u8 0, .int .u8 0, .int .u8 0, .int .u8 0, .int .u8 0, .int .u8 0, .int .u8 0, .int .u8 0, .int .u8 0, .int .u8 0, .int .u8 0, .int .u8 0, .int .u8 0, .int .u8 0, .int .u8 0, .int .u8 0, .int .u8 0, .int .u8 0, .int .u8 0, .int .u8 0, .int .u8 0, .int .u8 0, .int .u8 0, .int .u64 0, .int .u64 0, .int .u64 0, .int .u64 0, .int .u64 0, .int .u64 0, .int .u64 0, .int .u64 0, .int .u32 0] 40)) g rb l e gr gb noEvt := by
  subst h1 h2
  have hl := h.lt
  have z2 := zeroEvt_is (w.alloc (.cells #[.int .u8 0, .int .u64 0, .int .u8 0, .int .u8 0, .int .u8 0, .int .u8 0, .int .u8 0, .int .u8 0, .int .u8 0, .int .u8 0, .int .u8 0, .int .u8 0, .int .u8 0, .int .u8 0, .int .u8 0, .int .u8 0, .int .u8 0, .int .u8 0, .int .u8 0, .int .u8 0, .int .u8 0, .int .u8 0, .int .u8 0, .int .u8 0, .int .u8 0, .int .u8 0, .int .u8 0, .int .u8 0, .int .u8 0, .int .u8 0, .int .u8 0, .int .u8 0, .int .u8 0, .int .u8 0, .int .u8 0, .int .u8 0, .int .u8 0, .int .u8 0, .int .u64 0, .int .u64 0, .int .u64 0, .int .u64 0, .int .u64 0, .int .u64 0, .int .u64 0, .int .u64 0, .int .u32 0] 40))
  rw [show (w.alloc (.cells #[.int .u8 0, .int .u64 0, .int .u8 0, .int .u8 0, .int .u8 0, .int .u8 0, .int .u8 0, .int .u8 0, .int .u8 0, .int .u8 0, .int .u8 0, .int .u8 0, .int .u8 0, .int .u8 0, .int .u8 0, .int .u8 0, .int .u8 0, .int .u8 0, .int .u8 0, .int .u8 0, .int .u8 0, .int .u8 0, .int .u8 0, .int .u8 0, .int .u8 0, .int .u8 0, .int .u8 0, .int .u8 0, .int .u8 0, .int .u8 0, .int .u8 0, .int .u8 0, .int .u8 0, .int .u8 0, .int .u8 0, .int .u8 0, .int .u8 0, .int .u8 0, .int .u64 0, .int .u64 0, .int .u64 0, .int .u64 0, .int .u64 0, .int .u64 0, .int .u64 0, .int .u64 0, .int .u32 0] 40)).heap.size = w.heap.size + 1 by simp] at z2
  exact ⟨(h.past _).past _, (zeroEvt_is w).past _, z2, Bar.of (bAl (bAl (bMe w))), by omega, by omega, by omega, fun e => by have := hl.2.1 _ e; omega, fun e => by have := hl.2.1 _ e; omega, Nat.le_refl _, by omega⟩
theorem GS9.seth {w0 w : World} {g gr gb : Nat} {rb : Option Nat} {l : List Int} {e : Int} {x : Evt} (h : GS9 w0 w g rb l e gr gb x) (f : Nat → Int) : GS9 w0 (w.setCells gb 2 (rowV 32 f)) g rb l e gr gb { x with h := f } :=
  ⟨h.rdr.setAt h.gb1.symm h.rbb 2 _, h.res.offAt h.grb 2 _, h.box.seth f, h.bar.setAt h.lowb 2 _, h.gr1, h.gb1, h.grb, h.rbr, h.rbb, h.low, h.lowb⟩
theorem GS9.seta {w0 w : World} {g gr gb : Nat} {rb : Option Nat} {l : List Int} {e : Int} {x : Evt} (h : GS9 w0 w g rb l e gr gb x) (v : Int) : GS9 w0 ((((w.setCell ⟨gb, 38, none⟩ (.int .u64 (lm v 0))).setCell ⟨gb, 39, none⟩ (.int .u64 (lm v 1))).setCell ⟨gb, 40, none⟩ (.int .u64 (lm v 2))).setCell ⟨gb, 41, none⟩ (.int .u64 (lm v 3))) g rb l e gr gb { x with a := v } :=
  ⟨(((h.rdr.other (p := ⟨gb, 38, none⟩) h.gb1.symm h.rbb _).other (p := ⟨gb, 39, none⟩) h.gb1.symm h.rbb _).other (p := ⟨gb, 40, none⟩) h.gb1.symm h.rbb _).other (p := ⟨gb, 41, none⟩) h.gb1.symm h.rbb _,
    (((h.res.other (p := ⟨gb, 38, none⟩) h.grb _).other (p := ⟨gb, 39, none⟩) h.grb _).other (p := ⟨gb, 40, none⟩) h.grb _).other (p := ⟨gb, 41, none⟩) h.grb _,
    by rw [← ec_a]; exact (((h.box.set 38 _).set 39 _).set 40 _).set 41 _,
    (((h.bar.new (p := ⟨gb, 38, none⟩) h.lowb _).new (p := ⟨gb, 39, none⟩) h.lowb _).new (p := ⟨gb, 40, none⟩) h.lowb _).new (p := ⟨gb, 41, none⟩) h.lowb _, h.gr1, h.gb1, h.grb, h.rbr, h.rbb, h.low, h.lowb⟩
theorem GS9.setc {w0 w : World} {g gr gb : Nat} {rb : Option Nat} {l : List Int} {e : Int} {x : Evt} (h : GS9 w0 w g rb l e gr gb x) (v : Int) : GS9 w0 ((((w.setCell ⟨gb, 42, none⟩ (.int .u64 (lm v 0))).setCell ⟨gb, 43, none⟩ (.int .u64 (lm v 1))).setCell ⟨gb, 44, none⟩ (.int .u64 (lm v 2))).setCell ⟨gb, 45, none⟩ (.int .u64 (lm v 3))) g rb l e gr gb { x with c := v } :=
  ⟨(((h.rdr.other (p := ⟨gb, 42, none⟩) h.gb1.symm h.rbb _).other (p := ⟨gb, 43, none⟩) h.gb1.symm h.rbb _).other (p := ⟨gb, 44, none⟩) h.gb1.symm h.rbb _).other (p := ⟨gb, 45, none⟩) h.gb1.symm h.rbb _,
    (((h.res.other (p := ⟨gb, 42, none⟩) h.grb _).other (p := ⟨gb, 43, none⟩) h.grb _).other (p := ⟨gb, 44, none⟩) h.grb _).other (p := ⟨gb, 45, none⟩) h.grb _,
    by rw [← ec_c]; exact (((h.box.set 42 _).set 43 _).set 44 _).set 45 _,
    (((h.bar.new (p := ⟨gb, 42, none⟩) h.lowb _).new (p := ⟨gb, 43, none⟩) h.lowb _).new (p := ⟨gb, 44, none⟩) h.lowb _).new (p := ⟨gb, 45, none⟩) h.lowb _, h.gr1, h.gb1, h.grb, h.rbr, h.rbb, h.low, h.lowb⟩
theorem GS9.as {w0 w : World} {g gr gb : Nat} {rb : Option Nat} {l : List Int} {e : Int} {x x' : Evt} (h : GS9 w0 w g rb l e gr gb x) (he : x = x') : GS9 w0 w g rb l e gr gb x' := he ▸ h
/-- The result's box is written. -/
theorem GS9.done {w0 w : World} {g gr gb : Nat} {rb : Option Nat} {l : List Int} {e : Int} {x : Evt} (h : GS9 w0 w g rb l e gr gb x) : Rdr (w.setCells gr 0 (ec x)) g rb l e ∧ Bar g w0 (w.setCells gr 0 (ec x)) ∧ VRow (w.setCells gr 0 (ec x)) gr (ec x) :=
  ⟨h.rdr.setAt h.gr1.symm h.rbr 0 _, h.bar.setAt h.low 0 _, h.res.stored _ (by rw [ec_length, ec_length])⟩
theorem GS9.thereR {w0 w : World} {g gr gb : Nat} {rb : Option Nat} {l : List Int} {e : Int} {x : Evt} (h : GS9 w0 w g rb l e gr gb x) : w.there gr 0 (ec x).toArray.size := by
  rw [List.size_toArray, ec_length]; exact h.res.thereAt 0 47 (by rw [ec_length]; omega)
/-- A store of a long row, and what the world is then. -/
theorem store_stop9 {ops : Array Oper} {rest : List Oper} {op : Oper} {a : Act} {w : World} {Q : Exit → Act → World → Prop} (hgd : op.guard = none) (ty : TypeId) (x y : Operand) (ho : op.op = .store ty x y)
    (b o : Nat) (vs : List Value) (hx : a.eval x = .pointer (some ⟨b, o, none⟩)) (hy : a.eval y = .agg vs.toArray)
    (ht : w.there b o vs.toArray.size) (hi : (Try.prog.info? ty).map (·.size) = some vs.toArray.size) (h1 : vs.toArray.all (·.oneCell') = true)
    (h : ∀ w', Hid (w' = w.setCells b o vs) → wpList Try.prog ops Q rest (a.put op.dst undef) w') : wpList Try.prog ops Q (op :: rest) a w :=
  wpList_store_mid hgd ty x y ho b o vs.toArray hx hy ht hi h1 (h _ (hide (by rw [List.toList_toArray])))
theorem info_h9 (f : Nat → Int) : (Try.prog.info? 32).map (·.size) = some (rowV 32 f).toArray.size := by rw [List.size_toArray, rowV_length]; kernel_rfl
theorem row_one9 (f : Nat → Int) : (rowV 32 f).toArray.all (·.oneCell') = true := by
  rw [Array.all_eq_true]
  intro i hi
  exact rowV_one 32 f _ (by simp)
theorem VRow.hth {w : World} {g : Nat} {x : Evt} (h : VRow w g (ec x)) (f : Nat → Int) : w.there g 2 (rowV 32 f).toArray.size := by
  rw [List.size_toArray, rowV_length]; exact h.thereAt 2 32 (by rw [ec_length]; omega)
theorem fell_gotE {l l4 l5 : List Int} {e e4 e5 : Int} {x : Evt} (h : (e = 0 ∧ 113 ≤ l.length ∧ x = eof9 l ∧ l4 = l.drop 113 ∧ e4 = 0) ∨ ((e ≠ 0 ∨ l.length < 113) ∧ l4 = [] ∧ e4 = errOf e))
    (hf : (chkE x = 0 ∨ e4 ≠ 0) ∧ l5 = l4 ∧ e5 = e4 ∨ (chkE x ≠ 0 ∧ e4 = 0) ∧ l5 = [] ∧ e5 = chkE x) : GotE l e x l5 e5 := by
  unfold GotE
  rcases h with ⟨h0, h1, rfl, rfl, rfl⟩ | ⟨h0, rfl, rfl⟩
  · unfold chkE at hf
    by_cases hm : mayE (eof9 l) = true
    · rw [if_pos hm] at hf
      rcases hf with ⟨_, rfl, rfl⟩ | ⟨⟨h, _⟩, _⟩
      · exact .inl ⟨h0, h1, hm, rfl, rfl, rfl⟩
      · exact absurd rfl h
    · rw [if_neg hm] at hf
      rcases hf with ⟨h, _⟩ | ⟨_, rfl, rfl⟩
      · rcases h with h | h
        · omega
        · exact absurd rfl h
      · exact .inr (.inl ⟨h0, h1, by simpa using hm, rfl, rfl⟩)
  · have hn := errOf_ne e
    rcases hf with ⟨_, rfl, rfl⟩ | ⟨⟨_, h⟩, _⟩
    · exact .inr (.inr ⟨h0, rfl, rfl⟩)
    · exact absurd h hn
/-- An event was read. -/
def ReadE (w w' : World) (g : Nat) (rb : Option Nat) (l : List Int) (e : Int) (r : Ending) : Prop := ∃ x l' e', r = .returned (evV x) ∧ x.Ok ∧ GotE l e x l' e' ∧ Rdr w' g rb l' e' ∧ Bar g w w'
set_option maxRecDepth 100000 in
set_option maxHeartbeats 8000000 in
theorem get9_any {w : World} {g : Nat} {rb : Option Nat} {l : List Int} {e : Int} (h : Rdr w g rb l e) (hl : Byt l) :
    Calls Try.prog 26 #[.pointer (some ⟨g, 0, none⟩)] w fun r w' => ReadE w w' g rb l e r := by
  have G := hide (GS9.new h rfl rfl)
  have HE := hide h.lt.2.2.2
  have HL := hide hl
  have FR := hide (Far9.none l e)
  clear h hl
  go_enter Try.func26, Try.ntmps26
  go_wp2_with fail
  generalize ((w.alloc (.cells #[.int .u8 0, .int .u64 0, .int .u8 0, .int .u8 0, .int .u8 0, .int .u8 0, .int .u8 0, .int .u8 0, .int .u8 0, .int .u8 0, .int .u8 0, .int .u8 0, .int .u8 0, .int .u8 0, .int .u8 0, .int .u8 0, .int .u8 0, .int .u8 0, .int .u8 0, .int .u8 0, .int .u8 0, .int .u8 0, .int .u8 0, .int .u8 0, .int .u8 0, .int .u8 0, .int .u8 0, .int .u8 0, .int .u8 0, .int .u8 0, .int .u8 0, .int .u8 0, .int .u8 0, .int .u8 0, .int .u8 0, .int .u8 0, .int .u8 0, .int .u8 0, .int .u64 0, .int .u64 0, .int .u64 0, .int .u64 0, .int .u64 0, .int .u64 0, .int .u64 0, .int .u64 0, .int .u32 0] 40)).alloc (.cells #[.int .u8 0, .int .u64 0, .int .u8 0, .int .u8 0, .int .u8 0, .int .u8 0, .int .u8 0, .int .u8 0, .int .u8 0, .int .u8 0, .int .u8 0, .int .u8 0, .int .u8 0, .int .u8 0, .int .u8 0, .int .u8 0, .int .u8 0, .int .u8 0, .int .u8 0, .int .u8 0, .int .u8 0, .int .u8 0, .int .u8 0, .int .u8 0, .int .u8 0, .int .u8 0, .int .u8 0, .int .u8 0, .int .u8 0, .int .u8 0, .int .u8 0, .int .u8 0, .int .u8 0, .int .u8 0, .int .u8 0, .int .u8 0, .int .u8 0, .int .u8 0, .int .u64 0, .int .u64 0, .int .u64 0, .int .u64 0, .int .u64 0, .int .u64 0, .int .u64 0, .int .u64 0, .int .u32 0] 40)) = w0 at *
  generalize w.heap.size + 1 = gb at *
  generalize w.heap.size = gr at *
  refine (ru8_any G.out.rdr HL.out).mono ?_
  rintro r w1 ⟨v1, rfl, hr⟩
  obtain ⟨l1, e1, R1, hr1, hb⟩ := hr.parts
  replace G := hide (G.out.read hr1 hb)
  obtain ⟨k1, k2, k3⟩ := R1.byt HL.out
  have B1 : Hid (0 ≤ v1 ∧ v1 < 256) := ⟨k2, by simpa using k3⟩
  replace HL := hide k1
  clear k1 k2
  obtain ⟨k1, k2⟩ := FR.out.num (by omega) R1
  have T1 := hide k2
  replace FR := hide k1
  clear k1 k2 k3 hr R1 hr1 hb
  go_wp2_with fail
  refine (ru64_any G.out.rdr HL.out).mono ?_
  rintro r w2 ⟨v2, rfl, hr⟩
  obtain ⟨l2, e2, R1, hr1, hb⟩ := hr.parts
  replace G := hide (G.out.read hr1 hb)
  obtain ⟨k1, k2, k3⟩ := R1.byt HL.out
  have B2 : Hid (0 ≤ v2 ∧ v2 < 18446744073709551616) := ⟨k2, by simpa using k3⟩
  replace HL := hide k1
  clear k1 k2
  obtain ⟨k1, k2⟩ := FR.out.num (by omega) R1
  have T2 := hide k2
  replace FR := hide k1
  clear k1 k2 k3 hr R1 hr1 hb
  go_wp2_with fail
  refine (rhash_any G.out.rdr ).mono ?_
  rintro r w3 ⟨v3, rfl, hr⟩
  obtain ⟨l3, e3, R1, hr1, hb⟩ := hr.parts
  replace G := hide (G.out.read hr1 hb)
  have k3 := R1.byt HL.out
  have B3 := hide k3.2
  replace HL := hide k3.1
  obtain ⟨k1, k2⟩ := FR.out.hash R1
  have T3 := hide k2
  replace FR := hide k1
  clear k1 k2 k3 hr R1 hr1 hb
  obtain ⟨F, hF⟩ : ∃ F, v3 = F := ⟨_, rfl⟩
  have c0 := G.out.box.cell 0 rfl
  have c1 := G.out.box.cell 1 rfl
  have f0 := G.out.box.fr
  have G1 := hide ((G.out.set 0 (.int .u8 v1) (ec_k _ _)).set 1 (.int .u64 v2) (ec_b _ _))
  clear F hF
  go_wp2_with (refine store_stop9 rfl 32 _ _ rfl gb 2 (rowV 32 v3) rfl rfl (G1.out.box.hth v3) (info_h9 v3) (row_one9 v3) ?_; intro wA hA)
  replace G := hide (G1.out.seth v3)
  rw [← hA.out] at G
  clear hA G1 c0 c1 f0
  go_wp2_with fail
  refine (ru8_any G.out.rdr HL.out).mono ?_
  rintro r w4 ⟨v4, rfl, hr⟩
  obtain ⟨l4, e4, R1, hr1, hb⟩ := hr.parts
  replace G := hide (G.out.read hr1 hb)
  obtain ⟨k1, k2, k3⟩ := R1.byt HL.out
  have B4 : Hid (0 ≤ v4 ∧ v4 < 256) := ⟨k2, by simpa using k3⟩
  replace HL := hide k1
  clear k1 k2
  obtain ⟨k1, k2⟩ := FR.out.num (by omega) R1
  have T4 := hide k2
  replace FR := hide k1
  clear k1 k2 k3 hr R1 hr1 hb
  go_wp2_with fail
  refine (ru8_any G.out.rdr HL.out).mono ?_
  rintro r w5 ⟨v5, rfl, hr⟩
  obtain ⟨l5, e5, R1, hr1, hb⟩ := hr.parts
  replace G := hide (G.out.read hr1 hb)
  obtain ⟨k1, k2, k3⟩ := R1.byt HL.out
  have B5 : Hid (0 ≤ v5 ∧ v5 < 256) := ⟨k2, by simpa using k3⟩
  replace HL := hide k1
  clear k1 k2
  obtain ⟨k1, k2⟩ := FR.out.num (by omega) R1
  have T5 := hide k2
  replace FR := hide k1
  clear k1 k2 k3 hr R1 hr1 hb
  go_wp2_with fail
  refine (ru8_any G.out.rdr HL.out).mono ?_
  rintro r w6 ⟨v6, rfl, hr⟩
  obtain ⟨l6, e6, R1, hr1, hb⟩ := hr.parts
  replace G := hide (G.out.read hr1 hb)
  obtain ⟨k1, k2, k3⟩ := R1.byt HL.out
  have B6 : Hid (0 ≤ v6 ∧ v6 < 256) := ⟨k2, by simpa using k3⟩
  replace HL := hide k1
  clear k1 k2
  obtain ⟨k1, k2⟩ := FR.out.num (by omega) R1
  have T6 := hide k2
  replace FR := hide k1
  clear k1 k2 k3 hr R1 hr1 hb
  go_wp2_with fail
  refine (ru8_any G.out.rdr HL.out).mono ?_
  rintro r w7 ⟨v7, rfl, hr⟩
  obtain ⟨l7, e7, R1, hr1, hb⟩ := hr.parts
  replace G := hide (G.out.read hr1 hb)
  obtain ⟨k1, k2, k3⟩ := R1.byt HL.out
  have B7 : Hid (0 ≤ v7 ∧ v7 < 256) := ⟨k2, by simpa using k3⟩
  replace HL := hide k1
  clear k1 k2
  obtain ⟨k1, k2⟩ := FR.out.num (by omega) R1
  have T7 := hide k2
  replace FR := hide k1
  clear k1 k2 k3 hr R1 hr1 hb
  have c0 := G.out.box.cell 34 (ec_tail _ 0)
  have c1 := G.out.box.cell 35 (ec_tail _ 1)
  have c2 := G.out.box.cell 36 (ec_tail _ 2)
  have c3 := G.out.box.cell 37 (ec_tail _ 3)
  have f0 := G.out.box.fr
  replace G := hide ((((G.out.set 34 (.int .u8 v4) (ec_s _ _)).set 35 (.int .u8 v5) (ec_t _ _)).set 36 (.int .u8 v6) (ec_f _ _)).set 37 (.int .u8 v7) (ec_u _ _))
  go_wp2_with fail
  clear c0 c1 c2 c3 f0
  refine (rint_any G.out.rdr HL.out).mono ?_
  rintro r w8 ⟨v8, rfl, hr⟩
  obtain ⟨l8, e8, R1, hr1, hb⟩ := hr.parts
  replace G := hide (G.out.read hr1 hb)
  have B8 := hide (R1.ok HL.out)
  have k3 := R1.byt HL.out
  replace HL := hide k3
  obtain ⟨k1, k2⟩ := FR.out.int R1
  have T8 := hide k2
  replace FR := hide k1
  clear k1 k2 k3 hr R1 hr1 hb
  go_wp2_with fail
  refine (rint_any G.out.rdr HL.out).mono ?_
  rintro r w9 ⟨v9, rfl, hr⟩
  obtain ⟨l9, e9, R1, hr1, hb⟩ := hr.parts
  replace G := hide (G.out.read hr1 hb)
  have B9 := hide (R1.ok HL.out)
  have k3 := R1.byt HL.out
  replace HL := hide k3
  obtain ⟨k1, k2⟩ := FR.out.int R1
  have T9 := hide k2
  replace FR := hide k1
  clear k1 k2 k3 hr R1 hr1 hb
  go_wp2_with fail
  refine (ru32_any G.out.rdr HL.out).mono ?_
  rintro r w10 ⟨v10, rfl, hr⟩
  obtain ⟨l10, e10, R1, hr1, hb⟩ := hr.parts
  replace G := hide (G.out.read hr1 hb)
  obtain ⟨k1, k2, k3⟩ := R1.byt HL.out
  have B10 : Hid (0 ≤ v10 ∧ v10 < 4294967296) := ⟨k2, by simpa using k3⟩
  replace HL := hide k1
  clear k1 k2
  obtain ⟨k1, k2⟩ := FR.out.num (by omega) R1
  have T10 := hide k2
  replace FR := hide k1
  clear k1 k2 k3 hr R1 hr1 hb
  have c0 := G.out.box.cell 38 (ec_tail _ 4)
  have c1 := G.out.box.cell 39 (ec_tail _ 5)
  have c2 := G.out.box.cell 40 (ec_tail _ 6)
  have c3 := G.out.box.cell 41 (ec_tail _ 7)
  have c4 := G.out.box.cell 42 (ec_tail _ 8)
  have c5 := G.out.box.cell 43 (ec_tail _ 9)
  have c6 := G.out.box.cell 44 (ec_tail _ 10)
  have c7 := G.out.box.cell 45 (ec_tail _ 11)
  have c8 := G.out.box.cell 46 (ec_tail _ 12)
  have f0 := G.out.box.fr
  have f38 := f0 38
  have f39 := f0 39
  have f40 := f0 40
  have f41 := f0 41
  have f42 := f0 42
  have f43 := f0 43
  have f44 := f0 44
  have f45 := f0 45
  have f46 := f0 46
  replace c0 : ∃ v, w10.cell? ⟨gb, 38, none⟩ = some (.int .u64 v) := ⟨_, c0⟩
  obtain ⟨z0, c0⟩ := c0
  replace c1 : ∃ v, w10.cell? ⟨gb, 39, none⟩ = some (.int .u64 v) := ⟨_, c1⟩
  obtain ⟨z1, c1⟩ := c1
  replace c2 : ∃ v, w10.cell? ⟨gb, 40, none⟩ = some (.int .u64 v) := ⟨_, c2⟩
  obtain ⟨z2, c2⟩ := c2
  replace c3 : ∃ v, w10.cell? ⟨gb, 41, none⟩ = some (.int .u64 v) := ⟨_, c3⟩
  obtain ⟨z3, c3⟩ := c3
  replace c4 : ∃ v, w10.cell? ⟨gb, 42, none⟩ = some (.int .u64 v) := ⟨_, c4⟩
  obtain ⟨z4, c4⟩ := c4
  replace c5 : ∃ v, w10.cell? ⟨gb, 43, none⟩ = some (.int .u64 v) := ⟨_, c5⟩
  obtain ⟨z5, c5⟩ := c5
  replace c6 : ∃ v, w10.cell? ⟨gb, 44, none⟩ = some (.int .u64 v) := ⟨_, c6⟩
  obtain ⟨z6, c6⟩ := c6
  replace c7 : ∃ v, w10.cell? ⟨gb, 45, none⟩ = some (.int .u64 v) := ⟨_, c7⟩
  obtain ⟨z7, c7⟩ := c7
  replace c8 : ∃ v, w10.cell? ⟨gb, 46, none⟩ = some (.int .u32 v) := ⟨_, c8⟩
  obtain ⟨z8, c8⟩ := c8
  clear f0
  replace G := hide (((G.out.seta v8).setc v9).set 46 (.int .u32 v10) (ec_n _ _))
  obtain ⟨X, hX⟩ : ∃ X : Evt, (⟨v1, v2, v3, v4, v5, v6, v7, v8, v9, v10⟩ : Evt) = X := ⟨_, rfl⟩
  have HX : Hid X.Ok := by rw [← hX]; exact ⟨B1.out, B2.out, B3.out.1, B3.out.2, B4.out, B5.out, B6.out, B7.out, B8.out, B9.out, B10.out⟩
  have CH : Hid ((e = 0 ∧ 113 ≤ l.length ∧ X = eof9 l ∧ l10 = l.drop 113 ∧ e10 = 0) ∨ ((e ≠ 0 ∨ l.length < 113) ∧ l10 = [] ∧ e10 = errOf e)) := by
    rcases FR.out with ⟨h1, h2, h3⟩ | ⟨h1, h2, h3⟩
    · have hl : 113 ≤ l.length := by omega
      have h0 : e = 0 := Classical.byContradiction fun hc => by rw [HE.out hc] at hl; simp at hl
      refine .inl ⟨h0, hl, ?_, h2, by rw [h3]; exact h0⟩
      rw [← hX, T1.out (by omega), T2.out (by omega), T3.out (by omega), T4.out (by omega), T5.out (by omega), T6.out (by omega), T7.out (by omega), T8.out (by omega), T9.out (by omega), T10.out (by omega)]
      simp only [eof9, Nat.zero_add, Nat.reduceAdd, List.drop_zero]
    · exact .inr ⟨.inr (by omega), h2, h3⟩
  replace G := hide (G.out.as hX)
  clear hX T1 T2 T3 T4 T5 T6 T7 T8 T9 T10 B1 B2 B3 B4 B5 B6 B7 B8 B9 B10 HE FR HL
  go_wp2_with (refine wpList_load_mid rfl 40 _ rfl gb 0 rfl (ec X) _ ?hr Try.underlying40 rfl (info_evt X) ?_; (case hr => exact G.out.box.range))
  clear c0 c1 c2 c3 c4 c5 c6 c7 c8 f38 f39 f40 f41 f42 f43 f44 f45 f46
  refine (check9_any X HX.out _).mono ?_
  rintro r w11 ⟨rfl, hb⟩
  replace G := hide (G.out.after hb)
  clear hb
  obtain ⟨C, hC⟩ : ∃ C, chkE X = C := ⟨_, rfl⟩
  rw [hC]
  go_wp2_with fail
  refine (fail_any G.out.rdr C).mono ?_
  rintro r w12 ⟨rfl, hf, hb⟩
  obtain ⟨l11, e11, F, hr1⟩ := hf.parts
  have GG := hide (fell_gotE CH.out (by rw [hC]; exact F))
  replace G := hide (G.out.read hr1 hb)
  clear hf hb F hr1 CH hC
  go_wp2_with (first
    | refine wpList_load_mid rfl 40 _ rfl gb 0 rfl (ec X) _ G.out.box.range Try.underlying40 rfl (info_evt X) ?_
    | refine wpList_store_mid rfl 40 _ _ rfl gr 0 (ec X).toArray rfl rfl G.out.thereR (info_evtA X) (ec_oneA X) ?_)
  obtain ⟨D1, D2, D3⟩ := G.out.done
  have hlv := run_loadVar_mid (P := Try.prog) _ _ _ _ _ _ D3.range Try.underlying40 rfl (info_evt X)
  exact bodyPost_ret (v := evV X) (results_one Try.results26 rfl hlv) rfl ⟨X, l11, e11, rfl, HX.out, GG.out, D1, D2⟩
end Go.Proofs.Ytajkdbpojeaflaa
