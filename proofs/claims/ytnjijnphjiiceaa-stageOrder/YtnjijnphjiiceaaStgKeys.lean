/- The contracts of stage's Keys and of the law's pairs: loops over an iterator. -/
import Derived.Test.YtnjijnphjiiceaaStgIter
namespace Go.Proofs.Ytnjijnphjiiceaa
set_option linter.unusedSimpArgs false
set_option linter.unusedVariables false
set_option linter.unusedSectionVars false
open Go.RowKit Go.Lib Go.Shelf
attribute [local go_sem] setCell_drewN alloc_drewN Oper.semAt_some

theorem infoI64 : (Try.prog.info? 3).map (fun i => (i.zero, i.size, i.bytes)) = some (some (.int .i64 0), 1, 8) := by kernel_rfl
/-- Numbers, in a row of a call's own. -/
abbrev NRow (w : World) (base : Nat) (v : Value) (l : List Int) : Prop := w.ownsRow base 3 1 v l.length (l.map (Value.int .i64))
/-- append at the operation, inside a fence, and where the new row lies. -/
theorem wpListIn_append_at {F : Fence} {n : Nat} {P : Program} (w : World) {ops : Array Oper} {rest : List Oper} {o : Oper} {a : Act} {Q : Exit → Act → World → Prop}
    (hg : o.guard = none) (s x : Operand) (t : TypeId) (hop : o.op = Op.call { callee := Callee.builtin Builtin.append, args := #[s, x], argTypes := #[t, t] })
    (base : Nat) (e : TypeId) (i : TypeInfo) (z : Value) (size bytes : Nat) (h1 : P.underlying t = some (.slice e)) (h2 : P.info? e = some i) (h3 : i.zero = some z) (h4 : i.size = size) (h5 : i.bytes = bytes) (h6 : z.cells.size = size) (h7 : 0 < size)
    (v : Value) (k : Nat) (xs : List Value) (hs : a.eval s = v) (hown : w.ownsRow base e size v k xs) (ad : Addr) (m c : Nat) (news : List Value) (hx : a.eval x = .slice (some ad) m c) (hn : news.length = m * size)
    (hc : ∀ j u, news[j]? = some u → w.cell? (ad.add j) = some u) (h1c : ∀ u ∈ news, u.oneCell' = true) (b1 : k + m ≤ maxLen) (b2 : (k + m) * bytes ≤ 140737488355328) (b3 : base ≤ w.heap.size)
    (hK : ∀ v' w', w'.ownsRow base e size v' (k + m) (xs ++ news) → w.grownBy w' v.ownBlock → (v'.ownBlock = v.ownBlock ∨ v'.ownBlock = some w.heap.size) → wpListIn F n P ops Q rest (a.put o.dst v') w') :
    wpListIn F n P ops Q (o :: rest) a w := by
  refine wpListIn_plain hg fun K hK' => ?_
  obtain ⟨v', w', hrun, r1, r2, _, r4⟩ := run_append_own_at (P := P) w base t o.type e i z size bytes h1 h2 h3 h4 h5 h6 h7 v k xs hown ad m c news hn hc h1c b1 b2 b3
  unfold Oper.wpIn
  refine ⟨?_, ?_⟩
  · simp [Oper.about, hop, resolve, Target.leads, Sem.run_pure]
  · rw [Oper.semAt_plain F _ _ (by rw [hop]; intro c hc'; cases hc')]
    simp [execOp, hop, resolve, invoke, builtin, hs, hx, hrun, Result.andThen]
    exact hK' _ _ (hK v' w' r1 r2 r4)
/-- A collecting loop's invariant: a box holds a slice of its own, outside of these blocks. -/
def ColI (w : World) (Bx t e size lo hi : Nat) (f : Kvs → List Value) (pre : Kvs) (W : World) : Prop :=
  (∃ v, Boxed W Bx t v ∧ W.ownsRow w.heap.size e size v pre.length (f pre) ∧ ((∀ b, v.ownBlock = some b → b < lo ∨ hi ≤ b) ∧ ∃ ao cap, v = .slice ao pre.length cap)) ∧ Below w.heap.size w W ∧ hi ≤ W.heap.size
theorem ColI.own (w : World) (Bx t e size lo hi : Nat) (f : Kvs → List Value) {B : Nat} (hB : w.heap.size ≤ B) : OwnFrom B (ColI w Bx t e size lo hi f) :=
  OwnFrom.and (Own.from (holdsRow_own w.heap.size Bx t e size (fun pre => pre.length) f (fun pre v => (∀ b, v.ownBlock = some b → b < lo ∨ hi ≤ b) ∧ ∃ ao cap, v = .slice ao pre.length cap)) _)
    (OwnFrom.and (ownFrom_below (Nat.le_refl _) hB) (fun _ _ _ _ hs hg _ => Nat.le_trans hs hg.size))
/-- One more is collected. -/
theorem ColI.step {w W w1 : World} {Bx t e size lo hi : Nat} {f : Kvs → List Value} {pre : Kvs} {x : Int × Int} {v v' : Value} {tmp : Obj} {news : List Value} (hte : t ≠ e) (hBx : w.heap.size ≤ Bx) (hout : Bx < lo ∨ hi ≤ Bx) (hf : f (pre ++ [x]) = f pre ++ news)
    (hv : Boxed W Bx t v) (hrow : W.ownsRow w.heap.size e size v pre.length (f pre)) (ho : ∀ b, v.ownBlock = some b → b < lo ∨ hi ≤ b) (hB : Below w.heap.size w W) (hh : hi ≤ W.heap.size)
    (r1 : w1.ownsRow w.heap.size e size v' (pre.length + 1) (f pre ++ news)) (r2 : (W.alloc tmp).grownBy w1 v.ownBlock) (r4 : v'.ownBlock = v.ownBlock ∨ v'.ownBlock = some (W.alloc tmp).heap.size) :
    Boxed w1 Bx t v ∧ KeepsOthers W (w1.setCell ⟨Bx, 0, none⟩ v') ∧ KIv lo hi W (w1.setCell ⟨Bx, 0, none⟩ v') ∧ ColI w Bx t e size lo hi f (pre ++ [x]) (w1.setCell ⟨Bx, 0, none⟩ v') ∧ Below w.heap.size W (w1.setCell ⟨Bx, 0, none⟩ v') := by
  obtain ⟨q1, q2, q3, q4, q5⟩ := hv.appended hte hrow hB.size hBx r1 r2
  have hl : (pre ++ [x]).length = pre.length + 1 := by simp
  refine ⟨q1, q4, fun k h1 h2 => ?_, ⟨⟨v', q2, by rw [hl, hf]; exact q3, fun b hb => ?_, ?_⟩, hB.trans q5, Nat.le_trans hh q4.size⟩, q5⟩
  · rw [Below.heap_setCell _ _ _ _ (by simp only []; omega), r2.block k (by simp; omega) (fun e => by have := ho k e.symm; omega), Below.heap_alloc _ _ _ (by omega)]
  · rcases r4 with e | e
    · exact ho b (by rw [← e]; exact hb)
    · rw [hb] at e
      simp at e
      exact .inr (by omega)
  · obtain ⟨g, cap, e⟩ := ownsRow_succS r1
    exact ⟨_, cap, by rw [hl]; exact e⟩
set_option maxRecDepth 100000 in
set_option maxHeartbeats 4000000 in
theorem keys_any {w : World} {S Z : Nat → Prop} {bj : Nat} {A : List Nat} {mb : Nat → Nat} {X : Nat → Kvs} {ds : Deeds} (hs : St w S Z bj A mb X ds) {a : Nat} (ha : a ∈ A) (hlen : (X a).length ≤ 100000) :
    Calls Try.prog 24 #[.pointer (some ⟨a, 0, none⟩)] w fun e w' => ∃ ao cap, e = .returned (.slice ao (X a).length cap) ∧ NRow w' w.heap.size (.slice ao (X a).length cap) ((X a).map (·.1)) ∧ Below w.heap.size w w' := by
  obtain ⟨i0, hi, hz0, hz1, hz2⟩ := info_parts infoI64
  have HS := hide hs
  clear hs
  refine (callsIn_wide (n := 4)).1 ?_
  have hf1 : Fence.wide.fn 23 := trivial
  have hf2 : Fence.wide.fn 22 := trivial
  have hro : Fence.wide.round = none := rfl
  refine callsIn_of_wp_marks Try.func24 rfl trivial ?_ rfl
  simp only [Try.ntmps24, List.size_toArray, List.length_cons, List.length_nil, Nat.reduceAdd, Nat.reduceSub, Array.replicate_succ, Array.replicate_zero, List.push_toArray, List.append_toArray, List.nil_append, List.cons_append]
  gi_wp2_with (first
    | (gi_at_call 23; refine (callsIn_wide.2 (mlen_any HS.out ha)).mono ?_; rintro e w' ⟨rfl, hw⟩; have h2 := hw.symm; subst h2)
    | (gi_at_make; refine wpListIn_make_own _ rfl _ _ _ rfl w.heap.size 3 i0 (.int .i64 0) 1 Try.underlying55 hi hz0 hz1 .i64 .i64 ((X a).length : Int) (X a).length rfl rfl rfl (by rw [hz2]; omega) (by unfold maxLen; omega) (Nat.le_refl _) ?_; intro w1 r1 r2; have R1 := hide r1; have R2 := hide r2; have B1 := hide ((bMe w).grown r2 (Nat.le_refl _) (fun k e => by cases e)); clear r1 r2)
    | (gi_at_call 22; refine (callsIn_wide.2 (all_any (HS.out.below (bAl (o := .cells #[.slice (some ⟨w.heap.size, 0, none⟩) 0 (X a).length] 55) B1.out)) ha hlen)).mono ?_; rintro e w2 ⟨gb, rfl, hI, hb2⟩))
  have HI := hide hI
  have HB2 := hide hb2
  obtain ⟨lo, hlo⟩ : ∃ lo, (w1.alloc (.cells #[.slice (some ⟨w.heap.size, 0, none⟩) 0 (X a).length] 55)).heap.size = lo := ⟨_, rfl⟩
  have h0 : ColI w w1.heap.size 55 3 1 lo w2.heap.size (fun pre => pre.map fun x => Value.int .i64 x.1) [] w2 := by
    have hl := World.ownsRow.lt R1.out w.heap.size rfl
    have hb : Boxed w2 w1.heap.size 55 (.slice (some ⟨w.heap.size, 0, none⟩) 0 (X a).length) := (hb2.block _ (by simp)).trans (Boxed.new w1 _ _)
    refine ⟨⟨_, hb, ?_, fun b hb' => ?_, _, _, rfl⟩, (bAl B1.out).trans (hb2.mono (by have := B1.out.size; simp; omega)), Nat.le_refl _⟩
    · exact (R1.out.alloc _).kept (row := none) ⟨hb2.os, hb2.tape, hb2.output, hb2.size, fun k hk _ => hb2.block k hk⟩ (.inr (by simp [Value.ownBlock]))
    · simp [Value.ownBlock] at hb'
      rw [← hlo]
      simp
      omega
  have hlo2 : lo = w1.heap.size + 1 := by rw [← hlo]; simp
  rw [hlo] at HI HB2
  have HLO := hide hlo2
  clear hI hb2 hlo hlo2
  refine wpIn_rangeFunc_ownF rfl (by omega) (gf := 31) (lb := #[.pointer (some ⟨gb, 0, none⟩)]) rfl trivial (enters_of Try.func31 (by kernel_rfl) rfl)
    (iter_stops Fence.wide 3 trivial rfl (by omega) hlen HI.out (Nat.le_refl _)) (fun h k => h.t k) (KIv.b (Nat.le_refl _)) (Below.refl _ _) (fun _ => rfl)
    (ColI w w1.heap.size 55 3 1 lo w2.heap.size (fun pre => pre.map fun x => Value.int .i64 x.1)) (fun _ _ _ => False)
    (ColI.own _ _ _ _ _ _ _ _ (by have := h0.2.1.size; exact this)) (fun _ _ _ _ _ hs _ _ => hs) h0
    (fun x => { tmps := #[.pointer (some ⟨a, 0, none⟩), undef, .slice none 0 0, .pointer (some ⟨w1.heap.size, 0, none⟩), .int .i64 x.1, .pointer (some ⟨a, 0, none⟩), .int .i64 (X a).length, .slice (some ⟨w.heap.size, 0, none⟩) 0 (X a).length, .pointer (some ⟨a, 0, none⟩), .func (.func 31) #[] #[.pointer (some ⟨gb, 0, none⟩)], .int .i64 x.1, .int .i64 x.2, undef, undef, undef, undef, undef], defers := [] }) ?assign ?body ?done ?stop
  case assign =>
    intro l x W K hK
    gi_wp2
    exact hK
  case body =>
    rintro l pre x W ⟨⟨v, hv, hrow, hvo, ao, cap, rfl⟩, hB, hh⟩ hlt
    have hc := hv.cell
    obtain ⟨x1, x2⟩ := x
    have hpl : (pre.length : Int) ≤ 100000 := by omega
    gi_wp2_with (gi_at_builtin; refine wpListIn_append_at _ rfl _ _ 55 rfl w.heap.size 3 i0 (.int .i64 0) 1 8 Try.underlying55 hi hz0 hz1 hz2 rfl (by decide) (.slice ao pre.length cap) pre.length (pre.map fun x => Value.int .i64 x.1) rfl (hrow.alloc _) ⟨W.heap.size, 0, none⟩ 1 1 [.int .i64 x1] rfl rfl (cell_one_new _ _ _) (by simp [Value.oneCell']) (by unfold maxLen; omega) (by omega) (by have := hB.size; simp; omega) ?_; intro v' w4 r1 r2 r4; obtain ⟨g', cap', rfl⟩ := ownsRow_succS r1; obtain ⟨q1, q2, q3, q4, q5⟩ := ColI.step (x := (x1, x2)) (f := fun pre => pre.map fun x => Value.int .i64 x.1) (lo := lo) (hi := w2.heap.size) (news := [.int .i64 x1]) (by decide) (by have := B1.out.size; exact this) (by have := HLO.out; omega) (by simp) hv hrow hvo hB hh r1 r2 r4; have hc1 := q1.cell; have hf1 := q1.frozen)
    exact ⟨q2, q3, q4⟩
  case done =>
    rintro D ys W hD rfl ⟨⟨v, hv, hrow, hvo, ao, cap, rfl⟩, hB, hh⟩ hK
    have hc := hv.cell
    have hhp := h0.2.1.size
    gi_wp2
    refine ⟨by simp, .inl ⟨_, _, rfl, run_takeDeferred hK, ?_⟩⟩
    refine ⟨_, results_tmp rfl _ _ _, ao, cap, rfl, ?_, hB.trans (belowK_b (w := w) (Nat.le_refl _) W D _ _ (by omega) hK rfl rfl)⟩
    have := ownsRow_putObj hrow (.deferred none) hK rfl
    simpa [NRow, List.map_map, Function.comp_def] using this
  case stop =>
    rintro D c pre W _ _ h _
    exact h.elim
end Go.Proofs.Ytnjijnphjiiceaa
