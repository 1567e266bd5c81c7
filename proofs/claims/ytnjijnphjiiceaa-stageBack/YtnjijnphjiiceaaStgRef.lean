/- The document's rows (sponsionref12): Set, Drop, Get; the law's same. -/
import Derived.Test.YtnjijnphjiiceaaStgPairs
namespace Go.Proofs.Ytnjijnphjiiceaa
set_option linter.unusedSimpArgs false
set_option linter.unusedVariables false
set_option linter.unusedSectionVars false
open Go.RowKit Go.Lib
attribute [local go_sem] setCell_drewN alloc_drewN

/-- One round of the document's Set. -/
def stepS (k v : Int) (s : Bool × Kvs) (p : Int × Int) : Bool × Kvs :=
  if s.1 = false ∧ k ≤ p.1 then (true, if p.1 = k then s.2 ++ [(k, v)] else s.2 ++ [(k, v)] ++ [p]) else (s.1, if p.1 = k then s.2 else s.2 ++ [p])
def finS (k v : Int) (s : Bool × Kvs) : Kvs := if s.1 then s.2 else s.2 ++ [(k, v)]
theorem accS_done (k v : Int) : ∀ (l out : Kvs), (∀ p ∈ l, p.1 ≠ k) → l.foldl (stepS k v) (true, out) = (true, out ++ l)
  | [], out, _ => by simp
  | p :: r, out, h => by
    have hp := h p (by simp)
    rw [List.foldl_cons]
    have : stepS k v (true, out) p = (true, out ++ [p]) := by simp [stepS, hp]
    rw [this, accS_done k v r _ fun q hq => h q (by simp [hq])]
    simp
theorem accS_put (k v : Int) : ∀ (l out : Kvs), Srt kyInt l → finS k v (l.foldl (stepS k v) (false, out)) = out ++ putL kyInt k v l
  | [], out, _ => by simp [finS, putL]
  | p :: r, out, h => by
    obtain ⟨h1, h2⟩ := List.pairwise_cons.1 h
    have hr : ∀ q ∈ r, p.1 < q.1 := fun q hq => by simpa [kyInt] using h1 q hq
    rw [List.foldl_cons]
    by_cases e : p.1 = k
    · have : stepS k v (false, out) p = (true, out ++ [(k, v)]) := by simp [stepS, e]
      rw [this, accS_done k v r _ fun q hq => by have := hr q hq; omega]
      simp [finS, putL, kyInt, e]
    · by_cases hk : k < p.1
      · have : stepS k v (false, out) p = (true, out ++ [(k, v)] ++ [p]) := by
          unfold stepS
          rw [if_pos ⟨rfl, by omega⟩, if_neg e]
        rw [this, accS_done k v r _ fun q hq => by have := hr q hq; omega]
        simp [finS, putL, kyInt, hk]
      · have : stepS k v (false, out) p = (false, out ++ [p]) := by
          unfold stepS
          rw [if_neg (by simp; omega), if_neg e]
        rw [this, accS_put k v r _ h2]
        simp [putL, kyInt, e, hk]
theorem accS_len (k v : Int) : ∀ (l : Kvs) (s : Bool × Kvs), (l.foldl (stepS k v) s).2.length ≤ s.2.length + 2 * l.length
  | [], s => by simp
  | p :: r, s => by
    rw [List.foldl_cons]
    have h1 := accS_len k v r (stepS k v s p)
    have h2 : (stepS k v s p).2.length ≤ s.2.length + 2 := by
      unfold stepS
      split <;> (simp only []; split <;> simp)
    simp only [List.length_cons]
    omega
theorem PRow.form {w : World} {base : Nat} {v : Value} {l : Kvs} (h : PRow w base v l) : ∃ ao cap, v = .slice ao l.length cap ∧ l.length ≤ cap ∧ (ao = none → cap = 0) := by
  rcases h.2 with ⟨e, h0⟩ | ⟨g, cap, cur, e, _, _, hc, _⟩
  · exact ⟨none, 0, by rw [e, h0], by omega, fun _ => rfl⟩
  · exact ⟨_, cap, e, hc, fun e => by simp at e⟩
theorem PRow.of {w w' : World} {base : Nat} {v : Value} {l : Kvs} (h : PRow w base v l) (hb : ∀ k, v.ownBlock = some k → w'.heap[k]? = w.heap[k]?) : PRow w' base v l := by
  refine ⟨h.1, ?_⟩
  rcases h.2 with hn | ⟨g, cap, cur, rfl, hB, hg, r⟩
  · exact .inl hn
  · exact .inr ⟨g, cap, cur, rfl, hB, by rw [hb g rfl]; exact hg, r⟩
theorem PRow.below {w w' : World} {base : Nat} {v : Value} {l : Kvs} (h : PRow w base v l) (hb : Below w.heap.size w w') : PRow w' base v l := h.of fun k hk => hb.block k (World.ownsRow.lt h k hk).2
theorem PRow.lower {w : World} {base base' : Nat} {v : Value} {l : Kvs} (h : PRow w base v l) (hb : base' ≤ base) : PRow w base' v l := by
  refine ⟨h.1, ?_⟩
  rcases h.2 with hn | ⟨g, cap, cur, e, hB, r⟩
  · exact .inl hn
  · exact .inr ⟨g, cap, cur, e, Nat.le_trans hb hB, r⟩
/-- One pair, where it lies. -/
theorem PRow.get {w : World} {base : Nat} {ao : Option Addr} {cap : Nat} {l : Kvs} (h : PRow w base (.slice ao l.length cap) l) {j : Nat} {x : Int × Int} (hx : l[j]? = some x) :
    ∃ g, ao = some ⟨g, 0, none⟩ ∧ g < w.heap.size ∧ w.cell? ⟨g, j * 2, none⟩ = some (.int .i64 x.1) ∧ w.cell? ⟨g, j * 2 + 1, none⟩ = some (.int .i64 x.2) := by
  have hj : j < l.length := (List.getElem?_eq_some_iff.1 hx).1
  obtain ⟨e1, e2⟩ := eC_get l j x hx
  have hr := h
  rcases h.2 with ⟨e, h0⟩ | ⟨g, cap', cur, e, _, hg, _⟩
  · omega
  · simp only [Value.slice.injEq, true_and] at e
    obtain ⟨rfl, rfl⟩ := e
    exact ⟨g, rfl, (Array.getElem?_eq_some_iff.1 hg).1, by rw [World.ownsRow.cellAt hr _ (by omega)]; exact e1, by rw [World.ownsRow.cellAt hr _ (by omega)]; exact e2⟩
theorem prow1 {w : World} {b : Nat} {v : Value} {out : Kvs} {x y : Int} (h : w.ownsRow b 58 2 v (out.length + 1) (eC out ++ [.int .i64 x, .int .i64 y])) : PRow w b v (out ++ [(x, y)]) := by
  show w.ownsRow b _ 2 v (out ++ [(x, y)]).length (eC (out ++ [(x, y)]))
  rw [List.length_append, eC_append, eC_one]
  exact h
theorem prow2 {w : World} {b : Nat} {v : Value} {out : Kvs} {x y x2 y2 : Int} (h : w.ownsRow b 58 2 v (out.length + 1 + 1) (eC out ++ [.int .i64 x, .int .i64 y] ++ [.int .i64 x2, .int .i64 y2])) : PRow w b v (out ++ [(x, y)] ++ [(x2, y2)]) := by
  show w.ownsRow b _ 2 v (out ++ [(x, y)] ++ [(x2, y2)]).length (eC (out ++ [(x, y)] ++ [(x2, y2)]))
  rw [List.length_append, List.length_append, eC_append, eC_append, eC_one, eC_one]
  exact h
theorem app_below1 {w W w1 : World} {v : Value} {e size n : Nat} {xs : List Value} {o : Obj} (hb : Below w.heap.size w W) (hrow : W.ownsRow w.heap.size e size v n xs) (r2 : (W.alloc o).grownBy w1 v.ownBlock) : Below w.heap.size w w1 :=
  (bAl hb).grown r2 (bAl hb).size (fun k e => (World.ownsRow.lt hrow k e).1)
theorem app_below {w W w1 : World} {v : Value} {e size n : Nat} {xs : List Value} {o1 o2 : Obj} (hb : Below w.heap.size w W) (hrow : W.ownsRow w.heap.size e size v n xs) (r2 : ((W.alloc o1).alloc o2).grownBy w1 v.ownBlock) : Below w.heap.size w w1 :=
  (bAl (bAl hb)).grown r2 (bAl (bAl hb)).size (fun k e => (World.ownsRow.lt hrow k e).1)
theorem app_cells {b : Nat} {W w1 : World} {v x y : Value} {e size n : Nat} {t : TypeId} {xs : List Value} {o2 : Obj} (hrow : W.ownsRow b e size v n xs) (r2 : ((W.alloc (.cells #[x, y] t)).alloc o2).grownBy w1 v.ownBlock) :
    w1.cell? ⟨W.heap.size, 0, none⟩ = some x ∧ w1.cell? ⟨W.heap.size, 1, none⟩ = some y := by
  have e : w1.heap[W.heap.size]? = (W.alloc (.cells #[x, y] t)).heap[W.heap.size]? := (r2.block _ (by simp; omega) (fun e => by have := (World.ownsRow.lt hrow _ e.symm).2; omega)).trans (Below.heap_alloc _ _ _ (by simp))
  exact ⟨(World.cell?_of_block (w := W.alloc _) (a := ⟨W.heap.size, 0, none⟩) e).trans (by simp [go_sem]), (World.cell?_of_block (w := W.alloc _) (a := ⟨W.heap.size, 1, none⟩) e).trans (by simp [go_sem])⟩
set_option maxHeartbeats 4000000 in
theorem rset_any {w : World} {ao : Option Addr} {cap : Nat} {l : Kvs} (hl : PRow w 0 (.slice ao l.length cap) l) (hlen : l.length ≤ 10000) (k v : Int) :
    Calls Try.prog 9 #[.slice ao l.length cap, .int .i64 k, .int .i64 v] w fun e w' => ∃ u, e = .returned u ∧ PRow w' w.heap.size u (finS k v (l.foldl (stepS k v) (false, []))) ∧ Below w.heap.size w w' := by
  obtain ⟨i0, hi, hz0, hz1, hz2⟩ := info_parts infoPair
  have HL := hide hl
  have hl1 : (l.length : Int) ≤ 10000 := by omega
  clear hl
  go_enter Try.func9, Try.ntmps9
  go_wp2
  go_loopw [7, 8, 13] (fun o d i wr => ∃ m : Nat, m ≤ l.length ∧ i = .int .i64 m ∧ d = .bool ((l.take m).foldl (stepS k v) (false, [])).1 ∧ PRow wr w.heap.size o ((l.take m).foldl (stepS k v) (false, [])).2 ∧ Below w.heap.size w wr) (fun _ _ i _ => l.length - (intOf i).toNat)
  case atStart => exact ⟨0, Nat.zero_le _, rfl, rfl, World.ownsRow_nil _ _ _ _, bMe w⟩
  case round =>
    obtain ⟨m, hm, rfl, rfl, hrow, hB⟩ := hrel
    by_cases hlt : m < l.length
    · have hx : l[m]? = some l[m] := List.getElem?_eq_getElem hlt
      have htk : l.take (m + 1) = l.take m ++ [l[m]] := by rw [List.take_succ_eq_append_getElem hlt]
      have hacc : (l.take (m + 1)).foldl (stepS k v) (false, []) = stepS k v ((l.take m).foldl (stepS k v) (false, [])) l[m] := by rw [htk, List.foldl_append]; rfl
      have hal := accS_len k v (l.take m) (false, [])
      rw [List.length_take] at hal
      obtain ⟨g, rfl, hgl, c0, c1⟩ := (HL.out.below hB).get hx
      generalize l[m] = p at *
      obtain ⟨p1, p2⟩ := p
      simp only at c0 c1
      obtain ⟨s, hs⟩ : ∃ s, (l.take m).foldl (stepS k v) (false, []) = s := ⟨_, rfl⟩
      rw [hs] at hacc hal hrow ⊢
      obtain ⟨d, out⟩ := s
      simp only at hal hrow ⊢
      have hol : (out.length : Int) ≤ 20000 := by simp at hal; omega
      obtain ⟨ao1, cap1, rfl, _, _⟩ := hrow.form
      have HACC := hide hacc
      have HROW := hide hrow
      have HB := hide hB
      have hng : g ≠ wr.heap.size := by omega
      clear hs hacc hrow hB hx htk hal
      cases d with
      | true =>
        by_cases he : p1 = k
        · go_wp2
          go_roundw
          case rel => exact ⟨m + 1, by omega, by simp, by rw [HACC.out]; simp [stepS], by rw [HACC.out]; simpa [stepS, he] using HROW.out.below (bAl (bMe wr)), bAl HB.out⟩
          case measure => simp [intOf]; omega
        · go_wp2_with (at_builtin; refine wpList_append_own_at _ rfl _ _ 32 rfl w.heap.size 58 i0 (.agg #[.int .i64 0, .int .i64 0]) 2 16 Try.underlying32 hi hz0 hz1 hz2 rfl (by decide) _ (out.length) (eC out) rfl ((HROW.out.alloc _).alloc _) ⟨wr.heap.size + 1, 0, none⟩ 1 1 [.int .i64 p1, .int .i64 p2] rfl rfl (cell_two_newAt _ _ _ _ _) (by intro u hu; simp at hu; rcases hu with rfl | rfl <;> rfl) (by unfold maxLen; omega) (by omega) (by have := HB.out.size; simp; omega) ?_; intro v1 w5 r1 r2 _ r4; obtain ⟨g1, cap2, rfl⟩ := ownsRow_succS r1; have R1 := hide r1; have R2 := hide r2; have B5 := hide (app_below HB.out HROW.out r2); have C5 := app_cells HROW.out r2; obtain ⟨d0, d1⟩ := C5; clear r1 r2 r4)
          go_roundw
          case rel => exact ⟨m + 1, by omega, by simp, by rw [HACC.out]; simp [stepS], by rw [HACC.out]; simpa [stepS, he] using prow1 R1.out, B5.out⟩
          case measure => simp [intOf]; omega
      | false =>
        by_cases he : p1 = k
        · subst he
          go_wp2_with (at_builtin; refine wpList_append_own_at _ rfl _ _ 32 rfl w.heap.size 58 i0 (.agg #[.int .i64 0, .int .i64 0]) 2 16 Try.underlying32 hi hz0 hz1 hz2 rfl (by decide) _ (out.length) (eC out) rfl ((HROW.out.alloc _).alloc _) ⟨wr.heap.size + 1, 0, none⟩ 1 1 [.int .i64 p1, .int .i64 v] rfl rfl (cell_two_newAt _ _ _ _ _) (by intro u hu; simp at hu; rcases hu with rfl | rfl <;> rfl) (by unfold maxLen; omega) (by omega) (by have := HB.out.size; simp; omega) ?_; intro v1 w5 r1 r2 _ r4; obtain ⟨g1, cap2, rfl⟩ := ownsRow_succS r1; have R1 := hide r1; have R2 := hide r2; have B5 := hide (app_below HB.out HROW.out r2); have C5 := app_cells HROW.out r2; obtain ⟨d0, d1⟩ := C5; clear r1 r2 r4)
          go_roundw
          case rel => exact ⟨m + 1, by omega, by simp, by rw [HACC.out]; simp [stepS], by rw [HACC.out]; simpa [stepS] using prow1 R1.out, B5.out⟩
          case measure => simp [intOf]; omega
        · by_cases hk : k < p1
          · have hk1 : k ≤ p1 := by omega
            go_wp2_with (first
              | (at_builtin; refine wpList_append_own_at _ rfl _ _ 32 rfl w.heap.size 58 i0 (.agg #[.int .i64 0, .int .i64 0]) 2 16 Try.underlying32 hi hz0 hz1 hz2 rfl (by decide) _ (out.length) (eC out) rfl ((HROW.out.alloc _).alloc _) ⟨wr.heap.size + 1, 0, none⟩ 1 1 [.int .i64 k, .int .i64 v] rfl rfl (cell_two_newAt _ _ _ _ _) (by intro u hu; simp at hu; rcases hu with rfl | rfl <;> rfl) (by unfold maxLen; omega) (by omega) (by have := HB.out.size; simp; omega) ?_; intro v1 w5 r1 r2 _ r4; obtain ⟨g1, cap2, rfl⟩ := ownsRow_succS r1; have R1 := hide r1; have R2 := hide r2; have B5 := hide (app_below HB.out HROW.out r2); have C5 := app_cells HROW.out r2; obtain ⟨d0, d1⟩ := C5; clear r1 r2 r4)
              | (at_builtin; refine wpList_append_own_at _ rfl _ _ 32 rfl w.heap.size 58 i0 (.agg #[.int .i64 0, .int .i64 0]) 2 16 Try.underlying32 hi hz0 hz1 hz2 rfl (by decide) _ (out.length + 1) (eC out ++ [.int .i64 k, .int .i64 v]) rfl (R1.out.alloc _) ⟨w5.heap.size, 0, none⟩ 1 1 [.int .i64 p1, .int .i64 p2] rfl rfl (cell_two_new _ _ _ _) (by intro u hu; simp at hu; rcases hu with rfl | rfl <;> rfl) (by unfold maxLen; omega) (by omega) (by have := HB.out.size; have := B5.out.size; simp; omega) ?_; intro v2 w6 r1 r2 _ r4; obtain ⟨g2, cap3, rfl⟩ := ownsRow_succS r1; have R3 := hide r1; have B6 := hide (app_below1 B5.out R1.out r2); clear r1 r2 r4))
            go_roundw
            case rel => exact ⟨m + 1, by omega, by simp, by rw [HACC.out]; simp [stepS, hk1], by rw [HACC.out]; simpa [stepS, hk1, he] using prow2 R3.out, B6.out⟩
            case measure => simp [intOf]; omega
          · have hk1 : ¬ k ≤ p1 := by omega
            go_wp2_with (at_builtin; refine wpList_append_own_at _ rfl _ _ 32 rfl w.heap.size 58 i0 (.agg #[.int .i64 0, .int .i64 0]) 2 16 Try.underlying32 hi hz0 hz1 hz2 rfl (by decide) _ (out.length) (eC out) rfl ((HROW.out.alloc _).alloc _) ⟨wr.heap.size + 1, 0, none⟩ 1 1 [.int .i64 p1, .int .i64 p2] rfl rfl (cell_two_newAt _ _ _ _ _) (by intro u hu; simp at hu; rcases hu with rfl | rfl <;> rfl) (by unfold maxLen; omega) (by omega) (by have := HB.out.size; simp; omega) ?_; intro v1 w5 r1 r2 _ r4; obtain ⟨g1, cap2, rfl⟩ := ownsRow_succS r1; have R1 := hide r1; have R2 := hide r2; have B5 := hide (app_below HB.out HROW.out r2); have C5 := app_cells HROW.out r2; obtain ⟨d0, d1⟩ := C5; clear r1 r2 r4)
            go_roundw
            case rel => exact ⟨m + 1, by omega, by simp, by rw [HACC.out]; simp [stepS, hk1], by rw [HACC.out]; simpa [stepS, hk1, he] using prow1 R1.out, B5.out⟩
            case measure => simp [intOf]; omega
    · obtain rfl : m = l.length := by omega
      rw [List.take_length] at hrow ⊢
      obtain ⟨s, hs⟩ : ∃ s, l.foldl (stepS k v) (false, []) = s := ⟨_, rfl⟩
      have hal := accS_len k v l (false, [])
      rw [hs] at hrow hal ⊢
      have HS := hide hs
      obtain ⟨d, out⟩ := s
      simp only at hrow hal ⊢
      obtain ⟨ao1, cap1, rfl, _, _⟩ := hrow.form
      have hol : (out.length : Int) ≤ 20000 := by simp at hal; omega
      have HROW := hide hrow
      have HB := hide hB
      clear hs hrow hB hal
      cases d with
      | true =>
        go_wp2
        go_ret
        exact ⟨_, rfl, by rw [HS.out]; exact HROW.out, HB.out⟩
      | false =>
        go_wp2_with (at_builtin; refine wpList_append_own_at _ rfl _ _ 32 rfl w.heap.size 58 i0 (.agg #[.int .i64 0, .int .i64 0]) 2 16 Try.underlying32 hi hz0 hz1 hz2 rfl (by decide) _ (out.length) (eC out) rfl (HROW.out.alloc _) ⟨wr.heap.size, 0, none⟩ 1 1 [.int .i64 k, .int .i64 v] rfl rfl (cell_two_new _ _ _ _) (by intro u hu; simp at hu; rcases hu with rfl | rfl <;> rfl) (by unfold maxLen; omega) (by omega) (by have := HB.out.size; simp; omega) ?_; intro v1 w5 r1 r2 _ r4; obtain ⟨g1, cap2, rfl⟩ := ownsRow_succS r1; have R1 := hide r1; have B5 := hide (app_below1 HB.out HROW.out r2); clear r1 r2 r4)
        go_ret
        exact ⟨_, rfl, by rw [HS.out]; simpa [finS] using prow1 R1.out, B5.out⟩
end Go.Proofs.Ytnjijnphjiiceaa
