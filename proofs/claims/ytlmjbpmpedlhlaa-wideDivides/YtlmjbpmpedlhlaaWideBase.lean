/- Rows of limbs in memory; plain arithmetic of rows of limbs; numbers of 512 bits as values. -/
import Derived.Test.YtlmjbpmpedlhlaaOwn
import Derived.Deep.MidRow
import Derived.Laws.CopyOwn
namespace Go.Proofs.Ytlmjbpmpedlhlaa
open Go.RowKit Go.Lib

/-- Every limb is one. -/
def Lim (f : Nat → Int) : Prop := ∀ j, 0 ≤ f j ∧ f j < 18446744073709551616
/-- Block g of w holds n limbs, and may be written. -/
structure LRow (w : World) (g n : Nat) (f : Nat → Int) : Prop where
  lt : g < w.heap.size
  cell : ∀ j, j < n → w.cell? ⟨g, j, none⟩ = some (.int .u64 (f j))
  fr : ∀ o, w.frozen? ⟨g, o, none⟩ = false
/-- Only block g may have turned; others may have come. -/
structure Bar (g : Nat) (w w' : World) : Prop where
  os : w'.os = w.os
  tape : w'.tape = w.tape
  output : w'.output = w.output
  size : w.heap.size ≤ w'.heap.size
  block : ∀ k, k < w.heap.size → k ≠ g → w'.heap[k]? = w.heap[k]?
theorem Bar.refl (g : Nat) (w : World) : Bar g w w := ⟨rfl, rfl, rfl, Nat.le_refl _, fun _ _ _ => rfl⟩
theorem Bar.trans {g : Nat} {a b c : World} (h : Bar g a b) (k : Bar g b c) : Bar g a c :=
  ⟨k.os.trans h.os, k.tape.trans h.tape, k.output.trans h.output, Nat.le_trans h.size k.size, fun i hi hne => (k.block i (Nat.lt_of_lt_of_le hi h.size) hne).trans (h.block i hi hne)⟩
theorem Bar.below {g B : Nat} {a w w' : World} (h : Bar g w w') (hb : Below B a w) (h1 : B ≤ g) (h2 : B ≤ w.heap.size) : Below B a w' :=
  hb.trans ⟨h.os, h.tape, h.output, h.size, fun k hk => h.block k (by omega) (by omega)⟩
theorem Bar.of {g : Nat} {w w' : World} (h : Below w.heap.size w w') : Bar g w w' := ⟨h.os, h.tape, h.output, h.size, fun k hk _ => h.block k hk⟩
theorem Bar.on {g : Nat} {a w w' : World} (h : Bar g a w) (k : Below w.heap.size w w') : Bar g a w' := h.trans (Bar.of k)
theorem Bar.set {g : Nat} {a w : World} (h : Bar g a w) (j : Nat) (v : Value) : Bar g a (w.setCell ⟨g, j, none⟩ v) :=
  h.trans ⟨rfl, rfl, rfl, by simp [World.setCell], fun k _ hne => Below.heap_setCell _ _ _ _ hne⟩
theorem Bar.al {g : Nat} {a w : World} (h : Bar g a w) (o : Obj) : Bar g a (w.alloc o) := h.on (bAl (bMe w))
theorem Bar.dn {g : Nat} {a w : World} (h : Bar g a w) (n : Nat) : Bar g a (w.drewN n) := h.on (bDn (bMe w))
theorem Bar.drew {g : Nat} {a w : World} (h : Bar g a w) : Bar g a w.drew := h.on (bMe w).drew

theorem LRow.of {w w' : World} {g n : Nat} {f : Nat → Int} (h : LRow w g n f) (hs : w.heap.size ≤ w'.heap.size) (hb : w'.heap[g]? = w.heap[g]?) : LRow w' g n f :=
  ⟨Nat.lt_of_lt_of_le h.lt hs, fun j hj => (World.cell?_of_block (w := w) (a := ⟨g, j, none⟩) hb).trans (h.cell j hj), fun o => (World.frozen?_of_block (w := w) (a := ⟨g, o, none⟩) hb).trans (h.fr o)⟩
theorem LRow.after {w w1 w' : World} {g n : Nat} {f : Nat → Int} (h : LRow w g n f) (hb : Below w1.heap.size w1 w') (e : w1.heap = w.heap) : LRow w' g n f :=
  h.of (by rw [← e]; exact hb.size) (by rw [hb.block g (by rw [e]; exact h.lt), e])
theorem LRow.bar {w w1 w' : World} {g g' n : Nat} {f : Nat → Int} (h : LRow w g n f) (hb : Bar g' w1 w') (hne : g ≠ g') (e : w1.heap = w.heap) : LRow w' g n f :=
  h.of (by rw [← e]; exact hb.size) (by rw [hb.block g (by rw [e]; exact h.lt) hne, e])
theorem Own.bar {w w1 w' : World} {g g' : Nat} {a b c d : Int} (h : Own w g a b c d) (hb : Bar g' w1 w') (hne : g ≠ g') (e : w1.heap = w.heap) : Own w' g a b c d :=
  h.of (by rw [← e]; exact hb.size) (by rw [hb.block g (by rw [e]; exact h.lt) hne, e])
theorem LRow.past {w : World} {g n : Nat} {f : Nat → Int} (h : LRow w g n f) (o : Obj) : LRow (w.alloc o) g n f := h.of (by simp) (Below.heap_alloc _ _ _ h.lt)
theorem LRow.dn {w : World} {g n : Nat} {f : Nat → Int} (h : LRow w g n f) (k : Nat) : LRow (w.drewN k) g n f := h.of (Nat.le_refl _) rfl
theorem LRow.other {w : World} {g n : Nat} {f : Nat → Int} (h : LRow w g n f) {p : Addr} (hp : g ≠ p.block) (v : Value) : LRow (w.setCell p v) g n f := h.of (by simp [World.setCell]) (Below.heap_setCell _ _ _ _ hp)
theorem LRow.congr {w : World} {g n : Nat} {f f' : Nat → Int} (h : LRow w g n f) (e : ∀ j, j < n → f j = f' j) : LRow w g n f' :=
  ⟨h.lt, fun j hj => by rw [← e j hj]; exact h.cell j hj, h.fr⟩
theorem LRow.short {w : World} {g n : Nat} {f : Nat → Int} (h : LRow w g n f) (m : Nat) (hm : m ≤ n) : LRow w g m f := ⟨h.lt, fun j hj => h.cell j (by omega), h.fr⟩
/-- One limb of a row is another one. -/
def put (f : Nat → Int) (m : Nat) (v : Int) : Nat → Int := fun j => if j = m then v else f j
theorem put_same (f : Nat → Int) (m : Nat) (v : Int) : put f m v m = v := by simp [put]
theorem put_other (f : Nat → Int) {m j : Nat} (v : Int) (h : j ≠ m) : put f m v j = f j := by simp [put, h]
theorem Lim.put {f : Nat → Int} (h : Lim f) (m : Nat) {v : Int} (hv : 0 ≤ v ∧ v < 18446744073709551616) : Lim (put f m v) := by
  intro j; unfold Proofs.Ytlmjbpmpedlhlaa.put; split
  · exact hv
  · exact h j
theorem LRow.set {w : World} {g n : Nat} {f : Nat → Int} (h : LRow w g n f) (m : Nat) (hm : m < n) (v : Int) : LRow (w.setCell ⟨g, m, none⟩ (.int .u64 v)) g n (put f m v) := by
  refine ⟨by simpa [World.setCell] using h.lt, fun j hj => ?_, fun o => by simp [go_sem, h.fr]⟩
  have hc := h.cell j hj
  have hm' := h.cell m hm
  unfold put
  by_cases e : j = m
  · subst e; simp [go_sem, hc]
  · simp [go_sem, hc, e]
/-- A row of limbs, given one by one. -/
def lit (l : List Int) : Nat → Int := fun j => l.getD j 0
theorem LRow.new (w : World) (l : List Int) (n : Nat) (hl : l.length = n) (t : TypeId) {g : Nat} (e : w.heap.size = g) : LRow (w.alloc (.cells (l.map (Value.int .u64)).toArray t)) g n (lit l) := by
  subst e hl
  refine ⟨by simp, fun j hj => ?_, fun o => World.frozen?_alloc_at _ _ _ _ rfl⟩
  rw [World.cell?_alloc_at _ _ _ _ rfl]
  simp [lit, hj]
theorem LRow.own {w : World} {g : Nat} {f : Nat → Int} (h : LRow w g 4 f) : Own w g (f 0) (f 1) (f 2) (f 3) :=
  ⟨h.lt, h.cell 0 (by omega), h.cell 1 (by omega), h.cell 2 (by omega), h.cell 3 (by omega), h.fr⟩
theorem Own.row {w : World} {g : Nat} {a b c d : Int} (h : Own w g a b c d) : LRow w g 4 (lit [a, b, c, d]) :=
  ⟨h.lt, fun j hj => by
    rcases (by omega : j = 0 ∨ j = 1 ∨ j = 2 ∨ j = 3) with rfl | rfl | rfl | rfl
    · exact h.c0
    · exact h.c1
    · exact h.c2
    · exact h.c3, h.fr⟩
theorem setCells_row {g n : Nat} : ∀ (vs : List Int) (o : Nat) {w : World} {f : Nat → Int}, LRow w g n f → o + vs.length ≤ n →
    LRow (w.setCells g o (vs.map (Value.int .u64))) g n (fun j => if o ≤ j ∧ j < o + vs.length then vs.getD (j - o) 0 else f j)
  | [], o, w, f, h, _ => h.congr fun j _ => by rw [if_neg]; simp
  | v :: r, o, w, f, h, hl => by
    simp only [List.length_cons] at hl
    rw [List.map_cons, World.setCells]
    refine (setCells_row r (o + 1) (h.set o (by omega) v) (by omega)).congr fun j hj => ?_
    by_cases e : j = o
    · subst e
      rw [if_neg (by omega), if_pos (by simp), put_same]
      simp
    · rw [put_other _ _ e]
      by_cases e2 : o + 1 ≤ j ∧ j < o + 1 + r.length
      · rw [if_pos e2, if_pos (by simp only [List.length_cons]; omega)]
        rw [show j - o = (j - (o + 1)) + 1 by omega]
        simp
      · rw [if_neg e2, if_neg (by simp only [List.length_cons]; omega)]
theorem setCells_bar {g : Nat} : ∀ (vs : List Value) (o : Nat) {a w : World}, Bar g a w → Bar g a (w.setCells g o vs)
  | [], _, _, _, h => h
  | v :: r, o, a, w, h => by rw [World.setCells]; exact setCells_bar r (o + 1) (h.set o v)
/-- What a row holds when k limbs of another were laid into it. -/
def laid (f h : Nat → Int) (off so k : Nat) : Nat → Int := fun j => if off ≤ j ∧ j < off + k then h (so + (j - off)) else f j
theorem Lim.laid {f h : Nat → Int} (hf : Lim f) (hh : Lim h) (off so k : Nat) : Lim (laid f h off so k) := by
  intro j; unfold Proofs.Ytlmjbpmpedlhlaa.laid; split
  · exact hh _
  · exact hf j
theorem run_copy_rows {w : World} {g n s m off so dLen dCap sLen sCap k : Nat} {f h : Nat → Int} (ty : TypeId) (hg : LRow w g n f) (hs : LRow w s m h) (hk : k = Nat.min sLen dLen) (h1 : off + k ≤ n) (h2 : so + k ≤ m) :
    ∃ w', (Builtin.copy_ #[52, 52] ty #[.slice (some ⟨g, off, none⟩) dLen dCap, .slice (some ⟨s, so, none⟩) sLen sCap]).run Try.prog w = .ok (goInt k) w' ∧ LRow w' g n (laid f h off so k) ∧ Bar g w w' := by
  have hl : (((List.range k).map fun j => h (so + j)).map (Value.int .u64)).length = k := by simp
  have hr := run_copy_cells (P := Try.prog) w 52 52 ty 22 g off dLen dCap ⟨s, so, none⟩ sLen sCap (((List.range k).map fun j => h (so + j)).map (Value.int .u64)) Try.underlying52 (by kernel_rfl) (by rw [hl]; exact hk)
    (fun j v hv => by
      have hj : j < k := by have := (List.getElem?_eq_some_iff.1 hv).1; rwa [hl] at this
      simp [hj] at hv
      subst hv
      have := hs.cell (so + j) (by omega)
      by_cases hj0 : j = 0
      · subst hj0; simpa [Addr.add] using this
      · simpa [Addr.add, hj0] using this)
    (fun j hj => by rw [hl] at hj; rw [hg.cell (off + j) (by omega)]; rfl) (fun j _ => hg.fr _)
    (fun v hv => by obtain ⟨j, _, rfl⟩ := List.mem_map.1 hv; rfl)
  rw [hl] at hr
  refine ⟨_, hr, ?_, setCells_bar _ _ (Bar.refl _ _)⟩
  refine (setCells_row _ off hg (by simpa using h1)).congr fun j _ => ?_
  simp only [List.length_map, List.length_range, laid]
  split
  · rename_i hh
    simp [show j - off < k by omega]
  · rfl
/-- The same as one step of a region. -/
theorem step_copy_rows {ops : Array Oper} {o : Oper} {a : Act} {w : World} {K : Act → World → Prop} {Q : Exit → Act → World → Prop} {E : Prop} (hgd : o.guard = none) (d s : Operand)
    (ho : o.op = .call { callee := .builtin .copy, args := #[d, s], argTypes := #[52, 52] })
    (g gs off so dLen dCap sLen sCap n m k : Nat) (f h : Nat → Int) (hd : a.eval d = .slice (some ⟨g, off, none⟩) dLen dCap) (hs : a.eval s = .slice (some ⟨gs, so, none⟩) sLen sCap)
    (hg : LRow w g n f) (hq : LRow w gs m h) (hk : k = Nat.min sLen dLen) (h1 : off + k ≤ n) (h2 : so + k ≤ m)
    (hh : ∀ w', LRow w' g n (laid f h off so k) → Bar g w w' → K (a.put o.dst (goInt k)) w') :
    if Region.wanted o (yielded ops a.tmps) = true then Oper.wp Try.prog o a w K Q else E := by
  have hw : Region.wanted o (yielded ops a.tmps) = true := by simp [Region.wanted, hgd]
  rw [if_pos hw]
  obtain ⟨w', hrun, r1, r2⟩ := run_copy_rows (dCap := dCap) (sCap := sCap) o.type hg hq hk h1 h2
  unfold Oper.wp
  simp [execOp, ho, resolve, invoke, builtin, hd, hs, hrun, Result.andThen]
  exact hh _ r1 r2

/-- A number of 512 bits as the eight limbs that the program holds it in. -/
abbrev wid (n : Int) : Value := .agg #[.int .u64 (lm n 0), .int .u64 (lm n 1), .int .u64 (lm n 2), .int .u64 (lm n 3), .int .u64 (lm n 4), .int .u64 (lm n 5), .int .u64 (lm n 6), .int .u64 (lm n 7)]
end Go.Proofs.Ytlmjbpmpedlhlaa
