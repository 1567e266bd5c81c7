/- Contracts of pack.Reader's Hash and of pack.Of over this translation. -/
import Derived.Test.YtajkdbpojeaflaaPackReader2
namespace Go.Proofs.Ytajkdbpojeaflaa
open Go.RowKit Go.Lib
attribute [local go_sem] setCell_drewN alloc_drewN

theorem BRow.bar {w w1 w' : World} {g g' n : Nat} {f : Nat → Int} (h : BRow w g n f) (hb : Bar g' w1 w') (hne : g ≠ g') (e : w1.heap = w.heap) : BRow w' g n f :=
  h.of (by rw [← e]; exact hb.size) (by rw [hb.block g (by rw [e]; exact h.lt) hne, e])
theorem info_hsh (f : Nat → Int) : (Try.prog.info? 32).map (·.size) = some (rowV 32 f).length := by rw [rowV_length]; kernel_rfl
theorem bv_row {l : List Int} (h : l.length = 32) : bv l = rowV 32 (fun j => l.getD j 0) := by
  apply List.ext_getElem?
  intro j
  by_cases hj : j < 32
  · rw [rowV_get hj, bv_get (by omega)]
  · rw [List.getElem?_eq_none (by rw [bv_length]; omega), List.getElem?_eq_none (by rw [rowV_length]; omega)]
/-- 32 bytes are copied into a row of 32. -/
theorem step_copy32 {ops : Array Oper} {o : Oper} {a : Act} {w : World} {K : Act → World → Prop} {Q : Exit → Act → World → Prop} {E : Prop} (hgd : o.guard = none) (d s : Operand)
    (ho : o.op = .call { callee := .builtin .copy, args := #[d, s], argTypes := #[24, 24] }) (h : Nat) (ao : Option Addr) (c : Nat) (f : Nat → Int) (l : List Int) (hl : l.length = 32)
    (hd : a.eval d = .slice (some ⟨h, 0, none⟩) 32 32) (hs : a.eval s = .slice ao 32 c) (hr : BRow w h 32 f) (ha : At w ao l)
    (hh : K (a.put o.dst (goInt 32)) (w.setCells h 0 (rowV 32 (fun j => l.getD j 0)))) :
    if Region.wanted o (yielded ops a.tmps) = true then Oper.wp Try.prog o a w K Q else E := by
  have hw : Region.wanted o (yielded ops a.tmps) = true := by simp [Region.wanted, hgd]
  rw [if_pos hw]
  rcases ha with rfl | ⟨b, off, rfl, hb, hc⟩
  · simp at hl
  have hlv : (bv l).length = 32 := by rw [bv_length, hl]
  have hrun := run_copy_cells (P := Try.prog) w 24 24 o.type 5 h 0 32 32 ⟨b, off, none⟩ 32 c (bv l) Try.underlying24 (by kernel_rfl) (by rw [hlv]; rfl)
    (fun j v hv => by
      have hj : j < 32 := by have := (List.getElem?_eq_some_iff.1 hv).1; rwa [hlv] at this
      rw [Addr.add_mid, hc j (by omega), ← bv_get (by omega), hv])
    (fun j hj => by rw [hlv] at hj; rw [Nat.zero_add, hr.cell j hj]; rfl) (fun j _ => hr.fr _) (bv_one l)
  rw [hlv, bv_row hl] at hrun
  unfold Oper.wp
  simp [execOp, ho, resolve, invoke, builtin, hd, hs, hrun, Result.andThen]
  exact hh
theorem copy_none (h : Nat) (ty : TypeId) (w : World) : (Builtin.copy_ #[24, 24] ty #[.slice (some ⟨h, 0, none⟩) 32 32, .slice none 0 0]).run Try.prog w = .ok (goInt 0) w := by kernel_rfl
attribute [local go_sem] copy_none
/-- A sum was read. -/
def ReadH (w w' : World) (g : Nat) (rb : Option Nat) (l : List Int) (e : Int) (f : Nat → Int) : Prop :=
  (32 ≤ l.length ∧ f = (fun j => (l.take 32).getD j 0) ∧ Rdr w' g rb (l.drop 32) e ∨ l.length < 32 ∧ f = (fun _ => 0) ∧ Rdr w' g rb [] (errOf e)) ∧ Bar g w w'
theorem Rdr.setCells {w : World} {g : Nat} {rb : Option Nat} {l : List Int} {e : Int} (h : Rdr w g rb l e) {g' : Nat} (h1 : g ≠ g') (h2 : rb ≠ some g') (vs : List Value) : Rdr (w.setCells g' 0 vs) g rb l e := by
  obtain ⟨ao, cap, h⟩ := h
  exact ⟨ao, cap, h.of (by rw [setCells_size]; exact Nat.le_refl _) (setCells_block _ _ _ _ _ h1) (fun k hk => setCells_block _ _ _ _ _ (fun e => h2 (by rw [← e]; exact hk)))⟩
theorem setCells_os (b : Nat) : ∀ (vs : List Value) (o : Nat) (w : World), (w.setCells b o vs).os = w.os ∧ (w.setCells b o vs).tape = w.tape ∧ (w.setCells b o vs).output = w.output
  | [], _, _ => ⟨rfl, rfl, rfl⟩
  | v :: r, o, w => by rw [World.setCells]; exact setCells_os b r _ _
theorem Bar.setCells {g : Nat} {a w : World} (h : Bar g a w) {g' : Nat} (hp : a.heap.size ≤ g') (vs : List Value) : Bar g a (w.setCells g' 0 vs) := by
  obtain ⟨o1, o2, o3⟩ := setCells_os g' vs 0 w
  exact ⟨o1.trans h.os, o2.trans h.tape, o3.trans h.output, by rw [setCells_size]; exact h.size, fun k hk hne => by rw [setCells_block _ _ _ _ _ (by omega)]; exact h.block k hk hne⟩
set_option maxRecDepth 100000 in
set_option maxHeartbeats 4000000 in
theorem rhash_any {w : World} {g : Nat} {rb : Option Nat} {l : List Int} {e : Int} (h : Rdr w g rb l e) :
    Calls Try.prog 44 #[.pointer (some ⟨g, 0, none⟩)] w fun r w' => ∃ f, r = .returned (.agg (rowV 32 f).toArray) ∧ ReadH w w' g rb l e f := by
  have H := hide h
  clear h
  have HG1 : Hid (g ≠ w.heap.size) := by have := H.out.lt.1; exact Nat.ne_of_lt this
  have HG2 : Hid (rb ≠ some w.heap.size) := fun e => by have := H.out.lt.2.1 _ e; omega
  have HG3 : Hid (g ≠ w.heap.size + 1) := by have := H.out.lt.1; exact Nat.ne_of_lt (by omega)
  have HG4 : Hid (rb ≠ some (w.heap.size + 1)) := fun e => by have := H.out.lt.2.1 _ e; omega
  go_enter Try.func44, Try.ntmps44
  go_wp2
  have R1 := hide ((BRow.new w 32 32 (g := w.heap.size) rfl).past (.cells #[.int .u8 0, .int .u8 0, .int .u8 0, .int .u8 0, .int .u8 0, .int .u8 0, .int .u8 0, .int .u8 0, .int .u8 0, .int .u8 0, .int .u8 0, .int .u8 0, .int .u8 0, .int .u8 0, .int .u8 0, .int .u8 0, .int .u8 0, .int .u8 0, .int .u8 0, .int .u8 0, .int .u8 0, .int .u8 0, .int .u8 0, .int .u8 0, .int .u8 0, .int .u8 0, .int .u8 0, .int .u8 0, .int .u8 0, .int .u8 0, .int .u8 0, .int .u8 0] 32))
  have R2 := hide (BRow.new (w.alloc (.cells #[.int .u8 0, .int .u8 0, .int .u8 0, .int .u8 0, .int .u8 0, .int .u8 0, .int .u8 0, .int .u8 0, .int .u8 0, .int .u8 0, .int .u8 0, .int .u8 0, .int .u8 0, .int .u8 0, .int .u8 0, .int .u8 0, .int .u8 0, .int .u8 0, .int .u8 0, .int .u8 0, .int .u8 0, .int .u8 0, .int .u8 0, .int .u8 0, .int .u8 0, .int .u8 0, .int .u8 0, .int .u8 0, .int .u8 0, .int .u8 0, .int .u8 0, .int .u8 0] 32)) 32 32 (g := w.heap.size + 1) (by simp))
  have BA := hide (Bar.al (Bar.al (Bar.refl g w) (.cells #[.int .u8 0, .int .u8 0, .int .u8 0, .int .u8 0, .int .u8 0, .int .u8 0, .int .u8 0, .int .u8 0, .int .u8 0, .int .u8 0, .int .u8 0, .int .u8 0, .int .u8 0, .int .u8 0, .int .u8 0, .int .u8 0, .int .u8 0, .int .u8 0, .int .u8 0, .int .u8 0, .int .u8 0, .int .u8 0, .int .u8 0, .int .u8 0, .int .u8 0, .int .u8 0, .int .u8 0, .int .u8 0, .int .u8 0, .int .u8 0, .int .u8 0, .int .u8 0] 32)) (.cells #[.int .u8 0, .int .u8 0, .int .u8 0, .int .u8 0, .int .u8 0, .int .u8 0, .int .u8 0, .int .u8 0, .int .u8 0, .int .u8 0, .int .u8 0, .int .u8 0, .int .u8 0, .int .u8 0, .int .u8 0, .int .u8 0, .int .u8 0, .int .u8 0, .int .u8 0, .int .u8 0, .int .u8 0, .int .u8 0, .int .u8 0, .int .u8 0, .int .u8 0, .int .u8 0, .int .u8 0, .int .u8 0, .int .u8 0, .int .u8 0, .int .u8 0, .int .u8 0] 32))
  replace H := hide ((H.out.past (.cells #[.int .u8 0, .int .u8 0, .int .u8 0, .int .u8 0, .int .u8 0, .int .u8 0, .int .u8 0, .int .u8 0, .int .u8 0, .int .u8 0, .int .u8 0, .int .u8 0, .int .u8 0, .int .u8 0, .int .u8 0, .int .u8 0, .int .u8 0, .int .u8 0, .int .u8 0, .int .u8 0, .int .u8 0, .int .u8 0, .int .u8 0, .int .u8 0, .int .u8 0, .int .u8 0, .int .u8 0, .int .u8 0, .int .u8 0, .int .u8 0, .int .u8 0, .int .u8 0] 32)).past (.cells #[.int .u8 0, .int .u8 0, .int .u8 0, .int .u8 0, .int .u8 0, .int .u8 0, .int .u8 0, .int .u8 0, .int .u8 0, .int .u8 0, .int .u8 0, .int .u8 0, .int .u8 0, .int .u8 0, .int .u8 0, .int .u8 0, .int .u8 0, .int .u8 0, .int .u8 0, .int .u8 0, .int .u8 0, .int .u8 0, .int .u8 0, .int .u8 0, .int .u8 0, .int .u8 0, .int .u8 0, .int .u8 0, .int .u8 0, .int .u8 0, .int .u8 0, .int .u8 0] 32))
  have e32 : Array.replicate 32 (Value.int .u8 0) = #[.int .u8 0, .int .u8 0, .int .u8 0, .int .u8 0, .int .u8 0, .int .u8 0, .int .u8 0, .int .u8 0, .int .u8 0, .int .u8 0, .int .u8 0, .int .u8 0, .int .u8 0, .int .u8 0, .int .u8 0, .int .u8 0, .int .u8 0, .int .u8 0, .int .u8 0, .int .u8 0, .int .u8 0, .int .u8 0, .int .u8 0, .int .u8 0, .int .u8 0, .int .u8 0, .int .u8 0, .int .u8 0, .int .u8 0, .int .u8 0, .int .u8 0, .int .u8 0] := rfl
  rw [e32] at R1 R2
  clear e32
  generalize (w.alloc (.cells #[.int .u8 0, .int .u8 0, .int .u8 0, .int .u8 0, .int .u8 0, .int .u8 0, .int .u8 0, .int .u8 0, .int .u8 0, .int .u8 0, .int .u8 0, .int .u8 0, .int .u8 0, .int .u8 0, .int .u8 0, .int .u8 0, .int .u8 0, .int .u8 0, .int .u8 0, .int .u8 0, .int .u8 0, .int .u8 0, .int .u8 0, .int .u8 0, .int .u8 0, .int .u8 0, .int .u8 0, .int .u8 0, .int .u8 0, .int .u8 0, .int .u8 0, .int .u8 0] 32)).alloc (.cells #[.int .u8 0, .int .u8 0, .int .u8 0, .int .u8 0, .int .u8 0, .int .u8 0, .int .u8 0, .int .u8 0, .int .u8 0, .int .u8 0, .int .u8 0, .int .u8 0, .int .u8 0, .int .u8 0, .int .u8 0, .int .u8 0, .int .u8 0, .int .u8 0, .int .u8 0, .int .u8 0, .int .u8 0, .int .u8 0, .int .u8 0, .int .u8 0, .int .u8 0, .int .u8 0, .int .u8 0, .int .u8 0, .int .u8 0, .int .u8 0, .int .u8 0, .int .u8 0] 32) = w1 at *
  by_cases hlen : 32 ≤ l.length
  · have ht : Hid ((l.take 32).length = 32) := by show _ = _; simp; omega
    go_region_held3 (fun _ => True) (exact trivial)
      (first
        | (go_at_call 55; refine (take_ok (H.out.after (bMe w1).drew rfl) 32 hlen).mono ?_; rintro r w2 ⟨ao1, cap1, rfl, ha, hrow, hnil, hc1, hr, hb⟩; have A := hide ha; replace H := hide hr; replace R1 := hide (R1.out.bar hb HG1.out.symm rfl); replace R2 := hide (R2.out.bar hb HG3.out.symm rfl); replace BA := hide (BA.out.drew.trans hb); clear ha hrow hnil hc1 hr hb)
        | (refine step_copy32 rfl _ _ rfl (w.heap.size + 1) _ _ _ (l.take 32) ht.out rfl rfl R2.out A.out ?_))
    obtain ⟨F, hF⟩ : ∃ F : Nat → Int, (fun j => (l.take 32).getD j 0) = F := ⟨_, rfl⟩
    rw [hF]
    have HF := hide hF
    clear hF
    replace R1 := hide (R1.out.of (w' := w2.setCells (w.heap.size + 1) 0 (rowV 32 F)) (by rw [setCells_size]; exact Nat.le_refl _) (setCells_block _ _ _ _ _ (by omega)))
    replace R2 := hide (R2.out.stored F)
    replace H := hide (H.out.setCells HG3.out HG4.out (rowV 32 F))
    replace BA := hide (BA.out.setCells (g' := w.heap.size + 1) (by omega) (rowV 32 F))
    generalize w2.setCells (w.heap.size + 1) 0 (rowV 32 F) = w3 at *
    have hst := R1.out.storing (P := Try.prog) F
    go_wp2_with (refine wpList_load_mid rfl 32 _ rfl (w.heap.size + 1) 0 rfl (rowV 32 F) _ R2.out.range Try.underlying32 rfl (info_hsh _) ?_)
    refine bodyPost_ret (v := .agg (rowV 32 F).toArray) ?_ rfl ⟨F, rfl, .inl ⟨hlen, HF.out.symm, H.out.setCells HG1.out HG2.out _⟩, BA.out.setCells (Nat.le_refl _) _⟩
    have hlv := run_loadVar_mid (P := Try.prog) _ _ _ _ _ _ (R1.out.stored F).range Try.underlying32 rfl (info_hsh F)
    exact results_one Try.results44 rfl hlv
  · go_region_held3 (fun _ => True) (exact trivial)
      (first
        | (go_at_call 55; refine (take_short (H.out.after (bMe w1).drew rfl) 32 (by omega)).mono ?_; rintro r w2 ⟨rfl, hr, hb⟩; replace H := hide hr; replace R1 := hide (R1.out.bar hb HG1.out.symm rfl); replace R2 := hide (R2.out.bar hb HG3.out.symm rfl); replace BA := hide (BA.out.drew.trans hb); clear hr hb)
        | fail)
    obtain ⟨F, hF⟩ : ∃ F : Nat → Int, (fun _ => 0) = F := ⟨_, rfl⟩
    have HF := hide hF
    rw [hF] at R2
    clear hF
    have hst := R1.out.storing (P := Try.prog) F
    go_wp2_with (refine wpList_load_mid rfl 32 _ rfl (w.heap.size + 1) 0 rfl (rowV 32 F) _ R2.out.range Try.underlying32 rfl (info_hsh _) ?_)
    refine bodyPost_ret (v := .agg (rowV 32 F).toArray) ?_ rfl ⟨F, rfl, .inr ⟨by omega, HF.out.symm, H.out.setCells HG1.out HG2.out _⟩, BA.out.setCells (Nat.le_refl _) _⟩
    have hlv := run_loadVar_mid (P := Try.prog) _ _ _ _ _ _ (R1.out.stored F).range Try.underlying32 rfl (info_hsh F)
    exact results_one Try.results44 rfl hlv
theorem rof_any {w : World} (so : Option Addr) (c : Nat) (l : List Int) (hs : At w so l) (hso : so = none → c = 0) (hl : l.length ≤ 1000000) :
    Calls Try.prog 24 #[.slice so l.length c] w fun r w' => ∃ g rb, r = .returned (.pointer (some ⟨g, 0, none⟩)) ∧ Rdr w' g rb l 0 ∧ w.heap.size ≤ g ∧ (∀ k, rb = some k → w.heap.size ≤ k) ∧ Below w.heap.size w w' := by
  have HS := hide hs; have HSO := hide hso
  clear hs hso
  go_enter Try.func24, Try.ntmps24
  go_wp2_with fail
  refine (fresh_any so c l HS.out HSO.out hl).mono ?_
  rintro e w1 ⟨v, rfl, hv, hb⟩
  obtain ⟨ao, cap, rfl, hc1, hc2, ha⟩ := hv.cell
  have hn : ao = none → cap = 0 := fun e => by
    subst e
    rcases hv.2 with ⟨e, _⟩ | ⟨g', cap', cur, e, _⟩
    · simp at e; exact e.2
    · simp at e
  have hrow : ∀ k, blk ao = some k → w.heap.size ≤ k ∧ k < w1.heap.size := fun k hk => hv.lt k (by rw [blk_own]; exact hk)
  have R := hide (RdrI.new w1 ao cap l 87 ⟨hc1, hc2⟩ hn ha (fun k hk => (hrow k hk).2))
  have B := hide hb; have HR := hide hrow
  clear hv hb ha hn hrow hc1 hc2
  go_wp2
  go_ret
  exact ⟨_, _, rfl, ⟨_, _, R.out⟩, B.out.size, fun k hk => (HR.out k hk).1, bAl B.out⟩
end Go.Proofs.Ytajkdbpojeaflaa
