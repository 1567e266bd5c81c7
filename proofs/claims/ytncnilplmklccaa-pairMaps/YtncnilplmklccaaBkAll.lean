/- The contracts of book's All and Bytes over this translation. -/
import Derived.Test.YtncnilplmklccaaBkState
import Derived.Test.YtncnilplmklccaaPackMore
namespace Go.Proofs.Ytncnilplmklccaa
set_option linter.unusedSimpArgs false
set_option linter.unusedVariables false
open Go.RowKit Go.Lib Go.Shelf
attribute [local go_sem] setCell_drewN alloc_drewN Oper.semAt_some

theorem ball_any {w : World} {S : Nat → Prop} {bj : Jk} {bb n : Nat} {h : Nat → Kvs} (B : Bk w S bj bb n h) (hn : n ≤ 10000) :
    Calls Try.prog 52 #[.pointer (some ⟨bb, 0, none⟩)] w fun e w' => ∃ gb, e = .returned (.func (.func 72) #[] #[.pointer (some ⟨gb, 0, none⟩)]) ∧ It w' w.heap.size w'.heap.size gb (h n) ∧ Below w.heap.size w w' := by
  obtain ⟨Z, mb, X, ds, hs, e, hh, _, hc⟩ := B.ex
  have hX : X bj.a = h n := by
    have := hh n (Nat.le_refl n)
    rw [← e, List.drop_length, undoN_nil] at this
    rw [← e]
    exact this
  have hl := (B.good n (Nat.le_refl n)).2.1
  have HA := hide (all_any hs B.mem (by rw [hX]; omega))
  rw [hX] at HA
  clear hs hX hh hl B
  go_enter Try.func52, Try.ntmps52
  go_wp2_with fail
  refine HA.out.mono ?_
  clear HA
  rintro e w1 ⟨gb, rfl, h1, h2⟩
  have H1 := hide h1
  have H2 := hide h2
  clear h1 h2
  go_wp2
  go_ret
  exact ⟨gb, rfl, H1.out, H2.out⟩
/-- A writer stays where nothing with cells turns. -/
theorem Wtr.grown {W W' : World} {g cap : Nat} {ao : Option Addr} {l : List Int} {row : Option Nat} (h : Wtr W g ao cap l) (hg : W.grownBy W' row) (hr : ∀ r, row = some r → ∃ o : Obj, W.heap[r]? = some o ∧ o.isCells = false) : Wtr W' g ao cap l := by
  have ne : ∀ k cs t f, W.heap[k]? = some (.cells cs t f) → some k ≠ row := fun k cs t f hk e => by
    obtain ⟨o, h1, h2⟩ := hr k e.symm
    rw [hk] at h1
    cases h1
    cases h2
  obtain ⟨lt, cell, fr, own⟩ := h
  obtain ⟨cs, t, f, hc⟩ := cells_of_cellS cell
  have hb := hg.block g lt (ne g _ _ _ hc)
  refine ⟨Nat.lt_of_lt_of_le lt hg.size, (World.cell?_of_block (w := W) (a := ⟨g, 0, none⟩) hb).trans cell, fun o => (World.frozen?_of_block (w := W) (a := ⟨g, o, none⟩) hb).trans (fr o), own.of fun k hk => ?_⟩
  refine hg.block k (own.lt k hk).2 ?_
  rcases own.2 with ⟨e, _⟩ | ⟨g', cap', cur, e, hB, hh, r⟩
  · rw [e] at hk; simp [Value.ownBlock] at hk
  · rw [e] at hk
    simp only [Value.ownBlock, Option.some.injEq] at hk
    subst hk
    exact ne _ _ _ _ hh
theorem Wtr.isRow {W : World} {g cap : Nat} {ao : Option Addr} {l : List Int} (h : Wtr W g ao cap l) : ∀ k, blk ao = some k → ∃ cs t f, W.heap[k]? = some (.cells cs t f) := fun k hk => by
  rw [← blk_own ao l.length cap] at hk
  rcases h.own.2 with ⟨e, _⟩ | ⟨g', cap', cur, e, hB, hh, r⟩
  · rw [e] at hk; simp [Value.ownBlock] at hk
  · rw [e] at hk
    simp only [Value.ownBlock, Option.some.injEq] at hk
    subst hk
    exact ⟨_, _, _, hh⟩
theorem Wrote.keeps {W W' : World} {g cap : Nat} {ao ao' : Option Addr} {l : List Int} (hw : Wtr W g ao cap l) (h : Wrote g ao ao' W W') : KeepsOthers W W' := by
  refine ⟨h.size, fun k o hk ho => ?_⟩
  rw [h.block k (Array.getElem?_eq_some_iff.1 hk).1 (fun e => ?_) (fun e => ?_), hk]
  · subst e
    obtain ⟨cs, t, f, hc⟩ := cells_of_cellS hw.cell
    rw [hk] at hc; cases hc; cases ho
  · obtain ⟨cs, t, f, hc⟩ := hw.isRow k e
    rw [hk] at hc; cases hc; cases ho
/-- An entry's bytes; a row's. -/
def ebytes (x : Kk × Nm) : List Int := be x.1.1 1 ++ be x.1.2 1 ++ b32 x.2.1
def txt (L : Kvs) : List Int := L.flatMap ebytes
theorem ebytes_length (x : Kk × Nm) : (ebytes x).length = 34 := by simp [ebytes, be_length, b32_length]
theorem txt_snoc (L : Kvs) (x : Kk × Nm) : txt (L ++ [x]) = txt L ++ ebytes x := by simp [txt]
theorem txt_length : ∀ L : Kvs, (txt L).length = L.length * 34
  | [] => rfl
  | x :: r => by
    have ih := txt_length r
    unfold txt at ih ⊢
    rw [List.flatMap_cons, List.length_append, ih, ebytes_length, List.length_cons]
    omega
/-- What the writing loop keeps. -/
def WrI (w : World) (g lo hi : Nat) (L : Kvs) (pre : List (Of L)) (W : World) : Prop :=
  (∃ ao cap, Wtr W g ao cap (txt (pre.map (·.1))) ∧ ∀ k, blk ao = some k → k < lo ∨ hi ≤ k) ∧ Below w.heap.size w W ∧ hi ≤ W.heap.size
theorem WrI.own (w : World) (g lo hi : Nat) (L : Kvs) {B : Nat} (hB : w.heap.size ≤ B) : OwnFrom B (WrI w g lo hi L) := fun s W W' row ⟨⟨ao, cap, h1, h2⟩, h3, h4⟩ hg hr =>
  ⟨⟨ao, cap, h1.grown hg (fun r e => (hr r e).2), h2⟩, h3.grown hg h3.size (fun k e => Nat.le_trans hB (hr k e).1), Nat.le_trans h4 hg.size⟩
/-- What stands where an entry has come: its key and its number in boxes of their own. -/
def Bx2 (hi kb vb : Nat) (x : Kk × Nm) (W : World) : Prop :=
  (hi ≤ kb ∧ hi ≤ vb) ∧ W.heap[kb]? = some (.cells #[.int .u8 x.1.1, .int .u8 x.1.2] 96 (0, 0)) ∧ W.heap[vb]? = some (.cells #[.int .u64 (lm x.2.1 0), .int .u64 (lm x.2.1 1), .int .u64 (lm x.2.1 2), .int .u64 (lm x.2.1 3)] 55 (0, 0))
theorem Bx2.grown {hi kb vb : Nat} {x : Kk × Nm} {W W' : World} {row : Option Nat} (h : Bx2 hi kb vb x W) (hg : W.grownBy W' row) (hr : ∀ r, row = some r → ∃ o : Obj, W.heap[r]? = some o ∧ o.isCells = false) : Bx2 hi kb vb x W' := by
  have ne : ∀ k cs t f, W.heap[k]? = some (.cells cs t f) → some k ≠ row := fun k cs t f hk e => by
    obtain ⟨o, h1, h2⟩ := hr k e.symm
    rw [hk] at h1
    cases h1
    cases h2
  obtain ⟨h0, h1, h2⟩ := h
  exact ⟨h0, (hg.block kb (Array.getElem?_eq_some_iff.1 h1).1 (ne _ _ _ _ h1)).trans h1, (hg.block vb (Array.getElem?_eq_some_iff.1 h2).1 (ne _ _ _ _ h2)).trans h2⟩
theorem Bx2.new (W : World) (x : Kk × Nm) {hi : Nat} (hh : hi ≤ W.heap.size) : Bx2 hi W.heap.size (W.heap.size + 1) x ((W.alloc (.cells #[.int .u8 x.1.1, .int .u8 x.1.2] 96)).alloc (.cells #[.int .u64 (lm x.2.1 0), .int .u64 (lm x.2.1 1), .int .u64 (lm x.2.1 2), .int .u64 (lm x.2.1 3)] 55)) := by
  refine ⟨⟨hh, by omega⟩, (Below.heap_alloc _ _ _ (by simp)).trans (World.alloc_heap_new W _), ?_⟩
  have := World.alloc_heap_new (W.alloc (.cells #[.int .u8 x.1.1, .int .u8 x.1.2] 96)) (.cells #[.int .u64 (lm x.2.1 0), .int .u64 (lm x.2.1 1), .int .u64 (lm x.2.1 2), .int .u64 (lm x.2.1 3)] 55)
  rwa [World.size_alloc] at this
theorem Bx2.cells {hi kb vb : Nat} {x : Kk × Nm} {W : World} (h : Bx2 hi kb vb x W) : (W.cell? ⟨kb, 0, none⟩ = some (.int .u8 x.1.1) ∧ W.cell? ⟨kb, 1, none⟩ = some (.int .u8 x.1.2)) ∧ W.cell? ⟨vb, 0, none⟩ = some (.int .u64 (lm x.2.1 0)) ∧ W.cell? ⟨vb, 1, none⟩ = some (.int .u64 (lm x.2.1 1)) ∧ W.cell? ⟨vb, 2, none⟩ = some (.int .u64 (lm x.2.1 2)) ∧ W.cell? ⟨vb, 3, none⟩ = some (.int .u64 (lm x.2.1 3)) := by
  obtain ⟨_, h1, h2⟩ := h
  refine ⟨⟨?_, ?_⟩, ?_, ?_, ?_, ?_⟩ <;> simp [World.cell?, h1, h2]
/-- A writer writes: the boxes stay. -/
theorem Bx2.wrote {hi kb vb g cap : Nat} {x : Kk × Nm} {W W' : World} {ao ao' : Option Addr} {l : List Int} (h : Bx2 hi kb vb x W) (hw : Wtr W g ao cap l) (hg : g < hi) (q : Wrote g ao ao' W W') : Bx2 hi kb vb x W' := by
  have ne : ∀ k cs t f, t ≠ (5 : TypeId) → W.heap[k]? = some (.cells cs t f) → blk ao ≠ some k := fun k cs t f ht hk e => by
    rw [← blk_own ao l.length cap] at e
    rcases hw.own.2 with ⟨e2, _⟩ | ⟨g', cap', cur, e2, hB, hh, r⟩
    · rw [e2] at e; simp [Value.ownBlock] at e
    · rw [e2] at e
      simp only [Value.ownBlock, Option.some.injEq] at e
      subst e
      rw [hk] at hh
      cases hh
      exact ht rfl
  obtain ⟨h0, h1, h2⟩ := h
  exact ⟨h0, (q.block kb (Array.getElem?_eq_some_iff.1 h1).1 (by omega) (ne _ _ _ _ (by decide) h1)).trans h1, (q.block vb (Array.getElem?_eq_some_iff.1 h2).1 (by omega) (ne _ _ _ _ (by decide) h2)).trans h2⟩
theorem write_step {w W W1 W2 W3 : World} {hi : Nat} {L : Kvs} {pre : List (Of L)} {x : Of L} {ao ao1 ao2 ao3 : Option Addr} {cap cap3 : Nat} (hw : Wtr W.drew w.heap.size ao cap (txt (pre.map (·.1)))) (hao : ∀ k, blk ao = some k → k < w.heap.size + 1 ∨ hi ≤ k) (hB : Below w.heap.size w W) (hh : hi ≤ W.heap.size)
    (q1 : Wrote w.heap.size ao ao1 W.drew W1) (q2 : Wrote w.heap.size ao1 ao2 W1 W2) (q3 : Wrote w.heap.size ao2 ao3 W2 W3) (w3 : Wtr W3 w.heap.size ao3 cap3 (txt (pre.map (·.1)) ++ be x.1.1.1 1 ++ be x.1.1.2 1 ++ b32 x.1.2.1)) :
    KeepsFrom hi W W3 ∧ KIv (w.heap.size + 1) hi W W3 ∧ WrI w w.heap.size (w.heap.size + 1) hi L (pre ++ [x]) W3 := by
  have q := q1.trans (q2.trans q3)
  have hk : KeepsOthers W.drew W3 := q.keeps hw
  have hk2 : KeepsOthers W W3 := ⟨hk.size, hk.same⟩
  have hb : ∀ k, k < W.heap.size → k ≠ w.heap.size → blk ao ≠ some k → W3.heap[k]? = W.heap[k]? := q.block
  have hs : W.heap.size ≤ W3.heap.size := q.size
  refine ⟨hk2.from _, fun k h1 h2 => hb k (by omega) (by omega) fun e => by have := hao k e; omega, ⟨ao3, cap3, ?_, fun k e => ?_⟩, ?_, by omega⟩
  · rw [List.map_append, List.map_cons, List.map_nil, txt_snoc]
    simpa [ebytes, List.append_assoc] using w3
  · rcases q.own k e with e | e
    · exact hao k e
    · have : W.heap.size ≤ k := e
      exact .inr (by omega)
  · have hd : Below w.heap.size w W.drew := hB.drew
    exact q.below hd (Nat.le_refl _) fun k e => by have := hw.row k e; omega
set_option maxRecDepth 100000 in
set_option maxHeartbeats 4000000 in
theorem bbytes_any {w : World} {S : Nat → Prop} {bj : Jk} {bb n : Nat} {h : Nat → Kvs} (B : Bk w S bj bb n h) (hn : n ≤ 10000) :
    Calls Try.prog 31 #[.pointer (some ⟨bb, 0, none⟩)] w fun e w' => ∃ v, e = .returned v ∧ Bs w' w.heap.size v (txt (h n)) ∧ Below w.heap.size w w' := by
  have hlen : (h n).length ≤ 100000 := by have := (B.good n (Nat.le_refl n)).2.1; omega
  have hlen2 : (h n).length ≤ 10000 := by have := (B.good n (Nat.le_refl n)).2.1; omega
  have HB := hide B
  clear B
  refine (callsIn_wide (n := 4)).1 ?_
  have hf1 : Fence.wide.fn 52 := trivial
  have hf2 : Fence.wide.fn 53 := trivial
  have hf3 : Fence.wide.fn 54 := trivial
  have hf4 : Fence.wide.fn 33 := trivial
  have hro : Fence.wide.round = none := rfl
  have hmix : Try.prog.follows .mixedOrders = true := by kernel_rfl
  refine callsIn_of_wp_marks Try.func31 rfl trivial ?_ rfl
  simp only [Try.ntmps31, List.size_toArray, List.length_cons, List.length_nil, Nat.reduceAdd, Nat.reduceSub, Array.replicate_succ, Array.replicate_zero, List.push_toArray, List.append_toArray, List.nil_append, List.cons_append]
  gi_wp2_with (gi_at_call 52; refine (callsIn_wide.2 (ball_any (HB.out.below (bAl (o := .cells #[.slice none 0 0] 74) (bMe w))) hn)).mono ?_; rintro e w2 ⟨gb, rfl, hI, hb2⟩)
  have HI := hide hI
  have HB2 := hide hb2
  have w0 : Wtr w2 w.heap.size none 0 [] := (Wtr.new w 74).after hb2 rfl
  have h0 : WrI w w.heap.size (w.heap.size + 1) w2.heap.size (h n) [] w2 := ⟨⟨none, 0, w0, fun k e => by simp [blk] at e⟩, bOn (bAl (bMe w)) hb2, Nat.le_refl _⟩
  have e1 : (w.alloc (.cells #[.slice none 0 0] 74)).heap.size = w.heap.size + 1 := by simp
  rw [e1] at HI
  clear hI hb2 w0 e1
  refine wpIn_rangeFunc_ownH rfl (by omega) (gf := 72) (lb := #[.pointer (some ⟨gb, 0, none⟩)]) rfl trivial (enters_of Try.func72 (by kernel_rfl) rfl)
    (iter_stops Fence.wide 3 trivial rfl (by omega) hlen HI.out (Nat.le_refl _)) (fun h k => h.t k) (KIv.b (Nat.le_refl _)) (Below.refl _ _) (fun _ => rfl)
    (WrI w w.heap.size (w.heap.size + 1) w2.heap.size (h n)) (fun _ _ _ => False)
    (WrI.own _ _ _ _ _ (by have := h0.2.1.size; exact this)) (fun _ _ _ _ _ hs _ _ => hs) h0
    (fun x a' W => ∃ kb vb, Bx2 w2.heap.size kb vb x.1 W ∧ a' = { tmps := #[.pointer (some ⟨bb, 0, none⟩), undef, .slice none 0 0, .pointer (some ⟨w.heap.size, 0, none⟩), .pointer (some ⟨kb, 0, none⟩), .pointer (some ⟨vb, 0, none⟩), .pointer (some ⟨bb, 0, none⟩), .func (.func 72) #[] #[.pointer (some ⟨gb, 0, none⟩)], .agg #[.int .u8 x.1.1.1, .int .u8 x.1.1.2], .agg #[.int .u64 (lm x.1.2.1 0), .int .u64 (lm x.1.2.1 1), .int .u64 (lm x.1.2.1 2), .int .u64 (lm x.1.2.1 3)], undef, undef, undef, undef, undef, undef, undef, undef, undef], defers := [] })
    (fun x a' s W W' row ⟨kb, vb, h1, h2⟩ hg hr => ⟨kb, vb, h1.grown hg (fun r e => (hr r e).2), h2⟩) ?assign ?body ?done ?stop
  case assign =>
    intro l pre x W K hI hK
    have HK := hide hK
    have HI' := hide hI
    clear hK hI
    gi_wp2
    have hI := HI'.out
    refine HK.out _ _ (((KeepsOthers.alloc W _).trans (KeepsOthers.alloc _ _)).from _) ?_ ?_ ⟨W.heap.size, W.heap.size + 1, Bx2.new W x.1 hI.2.2, rfl⟩
    · exact fun k h1 h2 => (Below.heap_alloc _ _ _ (by have := hI.2.2; simp; omega)).trans (Below.heap_alloc _ _ _ (by have := hI.2.2; omega))
    · have hO := WrI.own w w.heap.size (w.heap.size + 1) w2.heap.size (h n) (B := w2.heap.size) (by have := h0.2.1.size; exact this)
      exact hO.alloc _ (hO.alloc _ hI)
  case body =>
    rintro l pre x a' W hl _ ⟨⟨ao, cap, hw, hao⟩, hB, hh⟩ ⟨kb, vb, hx, rfl⟩ hlt
    have hgl : w.heap.size < w2.heap.size := by have := h0.1; obtain ⟨_, _, h, _⟩ := this; exact h.lt
    have hpl : (txt (pre.map (·.1))).length ≤ 400000 := by rw [txt_length, List.length_map]; omega
    have hkin := ((HB.out.good n (Nat.le_refl n)).1.kin _ x.2).ok
    have HW := hide hw
    have HX := hide hx
    have HBB := hide hB
    obtain ⟨⟨k0, k1⟩, v0, v1, v2, v3⟩ := hx.cells
    have hin : In x.1.2.1 := x.1.2.2
    clear hw hx hB
    gi_wp2
    have HWd : Hid (Wtr W.drew w.heap.size ao cap (txt (pre.map (·.1)))) := HW.out.after (bMe W.drew) rfl
    have HXd : Hid (Bx2 w2.heap.size kb vb x.1 W.drew) := HX.out
    gi_region_with_o ((first
      | (gi_at_call 54; refine (CallsIn.inRound l (callsIn_wide.2 (wint_any HW2.out x.1.2.1 hin (by rw [List.length_append, List.length_append, be_length, be_length]; omega)))).mono ?_; rintro e W3 ⟨rfl, ao3, cap3, hw3, hq3⟩; have T := hide (write_step HWd.out hao HBB.out hh HQ1.out HQ2.out hq3 hw3); clear hw3 hq3)
      | (gi_at_call 53; refine (CallsIn.inRound l (callsIn_wide.2 (u8_any HW1.out x.1.1.2 hkin.2.1 hkin.2.2 (by rw [List.length_append, be_length]; omega)))).mono ?_; rintro e W2 ⟨rfl, ao2, cap2, hw2, hq2⟩; have HW2 := hide hw2; have HQ2 := hide hq2; have HX2 := hide (HX1.out.wrote HW1.out hgl hq2); obtain ⟨⟨k0'', k1''⟩, v0'', v1'', v2'', v3''⟩ := HX2.out.cells; clear hw2 hq2)
      | (gi_at_call 53; refine (CallsIn.inRound l (callsIn_wide.2 (u8_any HWd.out x.1.1.1 hkin.1.1 hkin.1.2 (by omega)))).mono ?_; rintro e W1 ⟨rfl, ao1, cap1, hw1, hq1⟩; have HW1 := hide hw1; have HQ1 := hide hq1; have HX1 := hide (HXd.out.wrote HWd.out hgl hq1); obtain ⟨⟨k0', k1'⟩, v0', v1', v2', v3'⟩ := HX1.out.cells; clear hw1 hq1)))
    all_goals gi_wp2
    all_goals exact T.out
  case done =>
    rintro D ys W hD hys ⟨⟨ao, cap, hw, hao⟩, hB, hh⟩ hK
    have hgl := h0.2.1.size
    rw [hys] at hw
    have HW := hide hw
    have HK := hide hK
    have HBB := hide hB
    clear hw hK hB
    gi_wp2_with (gi_at_call 33; refine (callsIn_wide.2 (wbytes_any HW.out (by rw [txt_length]; omega))).mono ?_; rintro e W1 ⟨v, rfl, hv1, hv2⟩)
    have hK1 := (hv2.block D (Array.getElem?_eq_some_iff.1 HK.out).1).trans HK.out
    have hB1 := bOn HBB.out hv2
    have hv3 : Bs W1 w.heap.size v (txt (h n)) := Bs.mono hv1 HBB.out.size
    refine ⟨by simp, .inl ⟨_, _, rfl, run_takeDeferred hK1, ?_⟩⟩
    refine ⟨_, results_tmp rfl _ _ _, v, rfl, ownsRow_putObj hv3 (.deferred none) hK1 rfl, hB1.trans (belowK_b (w := w) (Nat.le_refl _) W1 D _ _ (by omega) hK1 rfl rfl)⟩
  case stop =>
    rintro D c pre W _ _ h _
    exact h.elim
end Go.Proofs.Ytncnilplmklccaa
