/- The contract of sponsionlaw12's pairs: a loop over an iterator that may be left. -/
import Derived.Test.YtnjijnphjiiceaaStgKeys
namespace Go.Proofs.Ytnjijnphjiiceaa
set_option linter.unusedSimpArgs false
set_option linter.unusedVariables false
set_option linter.unusedSectionVars false
open Go.RowKit Go.Lib Go.Shelf
attribute [local go_sem] setCell_drewN alloc_drewN Oper.semAt_some

theorem infoPair : (Try.prog.info? 58).map (fun i => (i.zero, i.size, i.bytes)) = some (some (.agg #[.int .i64 0, .int .i64 0]), 2, 16) := by kernel_rfl
/-- Pairs, in a row of a call's own. -/
abbrev PRow (w : World) (base : Nat) (v : Value) (l : Kvs) : Prop := w.ownsRow base 58 2 v l.length (eC l)
/-- A function's value isn't nil. -/
theorem func_nil (gb : Nat) (w : World) : (binOp .eql 52 (.func (.func 31) #[] #[.pointer (some ⟨gb, 0, none⟩)]) .nilFunc).run Try.prog w = .ok (.bool false) w := by kernel_rfl
/-- The bound's box stays where pairs are appended. -/
theorem mostBox {w W w1 : World} {m : Int} {v : Value} {l : Kvs} {tmp : Obj} (hb : Boxed W w.heap.size 3 (.int .i64 m)) (hrow : PRow W w.heap.size v l) (r2 : (W.alloc tmp).grownBy w1 v.ownBlock) : Boxed w1 w.heap.size 3 (.int .i64 m) :=
  (hb.alloc tmp).kept r2 (hb.not_row (by decide) hrow)
set_option maxRecDepth 100000 in
set_option maxHeartbeats 4000000 in
theorem pairs_any {w : World} {lo hi gb : Nat} {L : Kvs} (hI : It w lo hi gb L) (hh0 : hi ≤ w.heap.size) (hlen : L.length ≤ 100000) {m : Nat} (hm : 0 < m) (hm2 : m ≤ 9223372036854775807) :
    Calls Try.prog 21 #[.func (.func 31) #[] #[.pointer (some ⟨gb, 0, none⟩)], .int .i64 m] w fun e w' => ∃ v, e = .returned v ∧ PRow w' w.heap.size v (L.take m) ∧ Below w.heap.size w w' := by
  obtain ⟨i0, hi1, hz0, hz1, hz2⟩ := info_parts infoPair
  have HI := hide hI
  clear hI
  have hm0 : ¬ (m : Int) ≤ 0 := by omega
  have hd0 : decide ((m : Int) ≤ 0) = false := by simp; omega
  have heq := fun (gb : Nat) (W : World) => func_nil gb W
  refine (callsIn_wide (n := 4)).1 ?_
  have hro : Fence.wide.round = none := rfl
  refine callsIn_of_wp_marks Try.func21 rfl trivial ?_ rfl
  simp only [Try.ntmps21, List.size_toArray, List.length_cons, List.length_nil, Nat.reduceAdd, Nat.reduceSub, Array.replicate_succ, Array.replicate_zero, List.push_toArray, List.append_toArray, List.nil_append, List.cons_append]
  gi_wp2
  have hsz : ∀ W : World, Below w.heap.size w W → hi ≤ W.heap.size := fun W hb => Nat.le_trans hh0 hb.size
  have HSZ := hide hsz
  obtain ⟨w2, hw2⟩ : ∃ w2, (w.alloc (.cells #[.int .i64 m] 3)).alloc (.cells #[.slice none 0 0] 32) = w2 := ⟨_, rfl⟩
  have B2 : Hid (Below w.heap.size w w2) := by rw [← hw2]; exact bAl (bAl (bMe w))
  have I2 := hide (HI.out.kept (KIv.below B2.out hh0))
  have hbm : Boxed w2 w.heap.size 3 (.int .i64 m) := by rw [← hw2]; exact (Boxed.new w _ _).alloc _
  have hbo : Boxed w2 (w.heap.size + 1) 32 (.slice none 0 0) := by rw [← hw2]; have := Boxed.new (w.alloc (.cells #[.int .i64 m] 3)) 32 (.slice none 0 0); rwa [World.size_alloc] at this
  have h0 : ColI w (w.heap.size + 1) 32 58 2 lo hi eC [] w2 := ⟨⟨_, hbo, World.ownsRow_nil _ _ _ _, fun b hb => by simp [Value.ownBlock] at hb, _, _, rfl⟩, B2.out, hsz _ B2.out⟩
  rw [hw2]
  have HZ2 : Hid (w2.heap.size = w.heap.size + 2) := by show _ = _; rw [← hw2]; simp
  clear hw2 hsz
  refine wpIn_rangeFunc_ownF rfl (by omega) (gf := 31) (lb := #[.pointer (some ⟨gb, 0, none⟩)]) rfl trivial (enters_of Try.func31 (by kernel_rfl) rfl)
    (iter_stops Fence.wide 3 trivial rfl (by omega) hlen I2.out (HSZ.out _ B2.out)) (fun h k => h.t k) (KIv.b (HSZ.out _ B2.out)) (Below.refl _ _) (fun _ => rfl)
    (fun pre W => ColI w (w.heap.size + 1) 32 58 2 lo hi eC pre W ∧ (Boxed W w.heap.size 3 (.int .i64 m) ∧ pre.length < m))
    (fun c pre W => ColI w (w.heap.size + 1) 32 58 2 lo hi eC pre W ∧ (c = .exit 0 ∧ pre.length = m))
    (OwnFrom.and (ColI.own _ _ _ _ _ _ _ _ B2.out.size) (fun s A B row hs hg hr => ⟨hs.1.kept hg (fun e => by obtain ⟨_, o, ho, hc⟩ := hr _ e.symm; rw [show A.heap[w.heap.size]? = _ from hs.1] at ho; cases ho; cases hc), hs.2⟩))
    (fun c => OwnFrom.and (ColI.own _ _ _ _ _ _ _ _ B2.out.size) (fun _ _ _ _ hs _ _ => hs)) ⟨h0, hbm, hm⟩
    (fun x => { tmps := #[.func (.func 31) #[] #[.pointer (some ⟨gb, 0, none⟩)], .int .i64 m, undef, .pointer (some ⟨w.heap.size, 0, none⟩), .slice none 0 0, .pointer (some ⟨w.heap.size + 1, 0, none⟩), .int .i64 x.1, .int .i64 x.2, .func (.func 31) #[] #[.pointer (some ⟨gb, 0, none⟩)], .bool false, .bool false, .int .i64 m, .bool false, .bool false, undef, .func (.func 31) #[] #[.pointer (some ⟨gb, 0, none⟩)], .int .i64 x.1, .int .i64 x.2, undef, undef, undef, undef, undef, undef, undef, undef, undef, undef, undef], defers := [] }) ?assign ?body ?done ?stop
  case assign =>
    intro l x W K hK
    gi_wp2
    exact hK
  case body =>
    rintro l pre x W ⟨⟨⟨v, hv, hrow, hvo, ao, cap, rfl⟩, hB, hh⟩, hbm, hpm⟩ hlt
    have hc := hv.cell
    have hcm := hbm.cell
    obtain ⟨x1, x2⟩ := x
    have hpl : (pre.length : Int) ≤ 100000 := by omega
    have HV := hide hv
    have HBM := hide hbm
    have HROW := hide hrow
    have HB := hide hB
    have HH := hide hh
    have HVO := hide hvo
    clear hv hbm hrow hB hh hvo
    by_cases hge : m ≤ pre.length + 1
    · have hge1 : (m : Int) ≤ (pre.length : Int) + 1 := by omega
      gi_wp2_with (gi_at_builtin; refine wpListIn_append_at _ rfl _ _ 32 rfl w.heap.size 58 i0 (.agg #[.int .i64 0, .int .i64 0]) 2 16 Try.underlying32 hi1 hz0 hz1 hz2 rfl (by decide) (.slice ao pre.length cap) pre.length (eC pre) rfl (HROW.out.alloc _) ⟨W.heap.size, 0, none⟩ 1 1 [.int .i64 x1, .int .i64 x2] rfl rfl (cell_two_new _ _ _ _) (by intro u hu; simp at hu; rcases hu with rfl | rfl <;> rfl) (by unfold maxLen; omega) (by omega) (by have := HB.out.size; simp; omega) ?_; intro v' w4 r1 r2 r4; obtain ⟨g', cap', rfl⟩ := ownsRow_succS r1; obtain ⟨q1, q2, q3, q4, q5⟩ := ColI.step (x := (x1, x2)) (f := eC) (lo := lo) (hi := hi) (news := [.int .i64 x1, .int .i64 x2]) (by decide) (Nat.le_succ _) (.inr (by omega)) (by rw [eC_append, eC_one]) HV.out HROW.out HVO.out HB.out HH.out r1 r2 r4; have hc1 := q1.cell; have hf1 := q1.frozen; have hb1 := mostBox HBM.out HROW.out r2; have hcm1 := hb1.cell)
      exact ⟨q2, q4, rfl, by simp; omega⟩
    · have hge1 : ¬ (m : Int) ≤ (pre.length : Int) + 1 := by omega
      gi_wp2_with (gi_at_builtin; refine wpListIn_append_at _ rfl _ _ 32 rfl w.heap.size 58 i0 (.agg #[.int .i64 0, .int .i64 0]) 2 16 Try.underlying32 hi1 hz0 hz1 hz2 rfl (by decide) (.slice ao pre.length cap) pre.length (eC pre) rfl (HROW.out.alloc _) ⟨W.heap.size, 0, none⟩ 1 1 [.int .i64 x1, .int .i64 x2] rfl rfl (cell_two_new _ _ _ _) (by intro u hu; simp at hu; rcases hu with rfl | rfl <;> rfl) (by unfold maxLen; omega) (by omega) (by have := HB.out.size; simp; omega) ?_; intro v' w4 r1 r2 r4; obtain ⟨g', cap', rfl⟩ := ownsRow_succS r1; obtain ⟨q1, q2, q3, q4, q5⟩ := ColI.step (x := (x1, x2)) (f := eC) (lo := lo) (hi := hi) (news := [.int .i64 x1, .int .i64 x2]) (by decide) (Nat.le_succ _) (.inr (by omega)) (by rw [eC_append, eC_one]) HV.out HROW.out HVO.out HB.out HH.out r1 r2 r4; have hc1 := q1.cell; have hf1 := q1.frozen; have hb1 := mostBox HBM.out HROW.out r2; have hcm1 := hb1.cell)
      exact ⟨q2, q3, q4, hb1.kept (grownBy_setCell' w4 _ _) (by simp), by simp; omega⟩
  case done =>
    rintro D ys W hD rfl ⟨⟨⟨v, hv, hrow, hvo, ao, cap, rfl⟩, hB, hh⟩, _, hlt⟩ hK
    have hc := hv.cell
    gi_wp2
    refine ⟨by simp, .inl ⟨_, _, rfl, run_takeDeferred hK, ?_⟩⟩
    refine ⟨_, results_tmp rfl _ _ _, _, rfl, ?_, hB.trans (belowK_b (w := w) (Nat.le_refl _) W D _ _ (by have := HZ2.out; omega) hK rfl rfl)⟩
    rw [List.take_of_length_le (by omega)]
    exact ownsRow_putObj hrow (.deferred none) hK rfl
  case stop =>
    rintro D c pre W hD hp ⟨⟨⟨v, hv, hrow, hvo, ao, cap, rfl⟩, hB, hh⟩, rfl, hl⟩ hK
    have hc := hv.cell
    have htk : L.take m = pre := by
      obtain ⟨r, rfl⟩ := hp
      rw [← hl, List.take_left]
    clear hl
    gi_wp2
    refine ⟨by simp, .inl ⟨_, _, rfl, run_takeDeferred hK, ?_⟩⟩
    refine ⟨_, results_tmp rfl _ _ _, _, rfl, ?_, hB.trans (belowK_b (w := w) (Nat.le_refl _) W D _ _ (by have := HZ2.out; omega) hK rfl rfl)⟩
    rw [htk]
    exact ownsRow_putObj hrow (.deferred none) hK rfl
theorem pairs_none {w : World} {gb : Nat} {m : Int} (hm : m ≤ 0) :
    Calls Try.prog 21 #[.func (.func 31) #[] #[.pointer (some ⟨gb, 0, none⟩)], .int .i64 m] w fun e w' => e = .returned (.slice none 0 0) ∧ Below w.heap.size w w' := by
  have heq := fun (gb : Nat) (W : World) => func_nil gb W
  have B2 : Hid (Below w.heap.size w ((w.alloc (.cells #[.int .i64 m] 3)).alloc (.cells #[.slice none 0 0] 32))) := bAl (bAl (bMe w))
  refine (callsIn_wide (n := 4)).1 ?_
  have hro : Fence.wide.round = none := rfl
  refine callsIn_of_wp_marks Try.func21 rfl trivial ?_ rfl
  simp only [Try.ntmps21, List.size_toArray, List.length_cons, List.length_nil, Nat.reduceAdd, Nat.reduceSub, Array.replicate_succ, Array.replicate_zero, List.push_toArray, List.append_toArray, List.nil_append, List.cons_append]
  gi_wp2
  exact ⟨_, results_tmp rfl _ _ _, rfl, B2.out⟩
end Go.Proofs.Ytnjijnphjiiceaa
