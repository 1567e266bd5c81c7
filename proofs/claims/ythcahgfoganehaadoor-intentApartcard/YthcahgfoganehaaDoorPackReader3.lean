/- Contracts of pack.Reader's Hash and of pack.Of over this translation. -/
import Derived.Test.YthcahgfoganehaaDoorPackReader2
namespace Go.Proofs.YthcahgfoganehaaDoor
open Go.RowKit Go.Lib
attribute [local go_sem] setCell_drewN alloc_drewN

theorem BRow.bar {w w1 w' : World} {g g' n : Nat} {f : Nat → Int} (h : BRow w g n f) (hb : Bar g' w1 w') (hne : g ≠ g') (e : w1.heap = w.heap) : BRow w' g n f :=
  h.of (by rw [← e]; exact hb.size) (by rw [hb.block g (by rw [e]; exact h.lt) hne, e])
theorem info_hsh (f : Nat → Int) : (Tryd.prog.info? 36).map (·.size) = some (rowV 32 f).length := by rw [rowV_length]; kernel_rfl
theorem bv_row {l : List Int} (h : l.length = 32) : bv l = rowV 32 (fun j => l.getD j 0) := by
  apply List.ext_getElem?
  intro j
  by_cases hj : j < 32
  · rw [rowV_get hj, bv_get (by omega)]
  · rw [List.getElem?_eq_none (by rw [bv_length]; omega), List.getElem?_eq_none (by rw [rowV_length]; omega)]
/-- 32 bytes are copied into a row of 32. -/
theorem step_copy32 {ops : Array Oper} {o : Oper} {a : Act} {w : World} {K : Act → World → Prop} {Q : Exit → Act → World → Prop} {E : Prop} (hgd : o.guard = none) (d s : Operand)
    (ho : o.op = .call { callee := .builtin .copy, args := #[d, s], argTypes := #[29, 29] }) (h : Nat) (ao : Option Addr) (c : Nat) (f : Nat → Int) (l : List Int) (hl : l.length = 32)
    (hd : a.eval d = .slice (some ⟨h, 0, none⟩) 32 32) (hs : a.eval s = .slice ao 32 c) (hr : BRow w h 32 f) (ha : At w ao l)
    (hh : K (a.put o.dst (goInt 32)) (w.setCells h 0 (rowV 32 (fun j => l.getD j 0)))) :
    if Region.wanted o (yielded ops a.tmps) = true then Oper.wp Tryd.prog o a w K Q else E := by
  have hw : Region.wanted o (yielded ops a.tmps) = true := by simp [Region.wanted, hgd]
  rw [if_pos hw]
  rcases ha with rfl | ⟨b, off, rfl, hb, hc⟩
  · simp at hl
  have hlv : (bv l).length = 32 := by rw [bv_length, hl]
  have hrun := run_copy_cells (P := Tryd.prog) w 29 29 o.type 5 h 0 32 32 ⟨b, off, none⟩ 32 c (bv l) Tryd.underlying29 (by kernel_rfl) (by rw [hlv]; rfl)
    (fun j v hv => by
      have hj : j < 32 := by have := (List.getElem?_eq_some_iff.1 hv).1; rwa [hlv] at this
      rw [Addr.add_mid, hc j (by omega), ← bv_get (by omega), hv])
    (fun j hj => by rw [hlv] at hj; rw [Nat.zero_add, hr.cell j hj]; rfl) (fun j _ => hr.fr _) (bv_one l)
  rw [hlv, bv_row hl] at hrun
  unfold Oper.wp
  simp [execOp, ho, resolve, invoke, builtin, hd, hs, hrun, Result.andThen]
  exact hh
theorem copy_none (h : Nat) (ty : TypeId) (w : World) : (Builtin.copy_ #[29, 29] ty #[.slice (some ⟨h, 0, none⟩) 32 32, .slice none 0 0]).run Tryd.prog w = .ok (goInt 0) w := by kernel_rfl
attribute [local go_sem] copy_none
/-- A sum was read. -/
def ReadH (w w' : World) (g : Nat) (rb : Option Nat) (l : List Int) (e : Int) (f : Nat → Int) : Prop :=
  (32 ≤ l.length ∧ f = (fun j => (l.take 32).getD j 0) ∧ Rdr w' g rb (l.drop 32) e ∨ l.length < 32 ∧ f = (fun _ => 0) ∧ Rdr w' g rb [] (errOf e)) ∧ Bar g w w'
theorem Rdr.setCells {w : World} {g : Nat} {rb : Option Nat} {l : List Int} {e : Int} (h : Rdr w g rb l e) {g' : Nat} (h1 : g ≠ g') (h2 : rb ≠ some g') (vs : List Value) : Rdr (w.setCells g' 0 vs) g rb l e := by
  obtain ⟨ao, cap, h⟩ := h
  exact ⟨ao, cap, h.of (by rw [setCells_size]; exact Nat.le_refl _) (setCells_block _ _ _ _ _ h1) (fun k hk => setCells_block _ _ _ _ _ (fun e => h2 (by rw [← e]; exact hk)))⟩
theorem setCells_os (b : Nat) : ∀ (vs : List Value) (o : Nat) (w : World), (w.setCells b o vs).os = w.os ∧ (w.setCells b o vs).tape = w.tape ∧ (w.setCells b o vs).output = w.output
  | [], _, _ => ⟨rfl, rfl, rfl⟩
  | v :: r, o, w => by rw [World.setCells]; exact setCells_os b r _ _
theorem Bar.setCells {g : Nat} {a w : World} (h : Bar g a w) {g' : Nat} (hp : a.heap.size ≤ g') (vs : List Value) : Bar g a (w.setCells g' 0 vs) := by
  obtain ⟨o1, o2, o3⟩ := setCells_os g' vs 0 w
  exact ⟨o1.trans h.os, o2.trans h.tape, o3.trans h.output, by rw [setCells_size]; exact h.size, fun k hk hne => by rw [setCells_block _ _ _ _ _ (by omega)]; exact h.block k hk hne⟩
theorem rof_any {w : World} (so : Option Addr) (c : Nat) (l : List Int) (hs : At w so l) (hso : so = none → c = 0) (hl : l.length ≤ 1000000) :
    Calls Tryd.prog 19 #[.slice so l.length c] w fun r w' => ∃ g rb, r = .returned (.pointer (some ⟨g, 0, none⟩)) ∧ Rdr w' g rb l 0 ∧ w.heap.size ≤ g ∧ (∀ k, rb = some k → w.heap.size ≤ k) ∧ Below w.heap.size w w' := by
  have HS := hide hs; have HSO := hide hso
  clear hs hso
  go_enter Tryd.func19, Tryd.ntmps19
  go_wp2_with fail
  refine (fresh_any so c l HS.out HSO.out hl).mono ?_
  rintro e w1 ⟨v, rfl, hv, hb⟩
  obtain ⟨ao, cap, rfl, hc1, hc2, ha⟩ := hv.cell
  have hn : ao = none → cap = 0 := fun e => by
    subst e
    rcases hv.2 with ⟨e, _⟩ | ⟨g', cap', cur, e, _⟩
    · simp at e; exact e.2
    · simp at e
  have hrow : ∀ k, blk ao = some k → w.heap.size ≤ k ∧ k < w1.heap.size := fun k hk => hv.lt k (by rw [blk_own]; exact hk)
  have R := hide (RdrI.new w1 ao cap l 69 ⟨hc1, hc2⟩ hn ha (fun k hk => (hrow k hk).2))
  have B := hide hb; have HR := hide hrow
  clear hv hb ha hn hrow hc1 hc2
  go_wp2
  go_ret
  exact ⟨_, _, rfl, ⟨_, _, R.out⟩, B.out.size, fun k hk => (HR.out k hk).1, bAl B.out⟩
end Go.Proofs.YthcahgfoganehaaDoor
