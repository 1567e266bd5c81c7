/- The contracts of stage's inOrder and All over this translation. -/
import Derived.Test.YtncnilplmklccaaBkCmp
namespace Go.Proofs.Ytncnilplmklccaa
set_option linter.unusedSimpArgs false
set_option linter.unusedVariables false
set_option linter.unusedSectionVars false
open Go.RowKit Go.Lib
attribute [local go_sem] setCell_drewN alloc_drewN

theorem infoEnt : (Try.prog.info? 128).map (fun i => (i.zero, i.size, i.bytes)) = some (some (.agg #[.int .u8 0, .int .u8 0, .int .u64 0, .int .u64 0, .int .u64 0, .int .u64 0]), 6, 40) := by kernel_rfl
/-- 'range m' where the walk stands. -/
theorem wpList_mrange (w : World) {ops : Array Oper} {rest : List Oper} {o : Oper} {a : Act} {Q : Exit → Act → World → Prop} (hg : o.guard = none) (m : Operand) (hop : o.op = Op.range 119 m) {b : Nat} {L : Kvs} (hm : a.eval m = .map (some b)) (h : MapIs encS w b L)
    (hK : ∀ w', RangeIs encS w' b w.heap.size L [] L.length → w.grownBy w' none → w'.heap.size = w.heap.size + 1 → wpList Try.prog ops Q rest (a.put o.dst (.pointer (some ⟨w.heap.size, 0, none⟩))) w') : wpList Try.prog ops Q (o :: rest) a w := by
  refine wpList_plain hg fun K' hK' => ?_
  obtain ⟨w', hrun, r1, r2, r3⟩ := h.range encS
  simp only [encS] at hrun
  unfold Oper.wp
  simp [execOp, hop, hm, hrun, Result.andThen]
  exact hK' _ _ (hK w' r1 r2 r3)
/-- A range's step where the walk stands. -/
theorem wpList_mnext (w : World) {ops : Array Oper} {rest : List Oper} {o : Oper} {a : Act} {Q : Exit → Act → World → Prop} (hg : o.guard = none) (it : Operand) (hop : o.op = Op.next it false) {b r cnt : Nat} {L got : Kvs} (hit : a.eval it = .pointer (some ⟨r, 0, none⟩)) (h : RangeIs encS w b r L got cnt) (hL : Srt kyKey L)
    (hDone : got.Perm L → wpList Try.prog ops Q rest (a.put o.dst (.tuple #[.bool false])) w)
    (hMore : ∀ (k : Kk) (v : Nm) (w' : World) (cnt' : Nat), RangeIs encS w' b r L (got ++ [(k, v)]) cnt' → cnt' < cnt → w.grownBy w' (some r) → w'.heap.size = w.heap.size → (Instr.entry (.pointer (some ⟨r, 0, none⟩))).run Try.prog w' = .ok (.tuple #[.agg #[.int .u8 k.1, .int .u8 k.2], .agg #[.int .u8 k.1, .int .u8 k.2, .int .u64 (lm v.1 0), .int .u64 (lm v.1 1), .int .u64 (lm v.1 2), .int .u64 (lm v.1 3)]]) w' →
      wpList Try.prog ops Q rest (a.put o.dst (.tuple #[.bool true, .agg #[.int .u8 k.1, .int .u8 k.2], .agg #[.int .u8 k.1, .int .u8 k.2, .int .u64 (lm v.1 0), .int .u64 (lm v.1 1), .int .u64 (lm v.1 2), .int .u64 (lm v.1 3)]])) w') : wpList Try.prog ops Q (o :: rest) a w := by
  refine wpList_plain hg fun K' hK' => ?_
  unfold Oper.wp
  rcases h.next encS kyKey hL o.type with ⟨h1, hrun⟩ | ⟨x, w', cnt', hx, hrun, r1, r2, r3, r4, hen⟩
  · simp [execOp, hop, hit, hrun, Result.andThen]
    exact hK' _ _ (hDone h1)
  · obtain ⟨k, v⟩ := x
    simp only [encS] at hrun hen
    simp [execOp, hop, hit, hrun, Result.andThen]
    exact hK' _ _ (hMore k v w' cnt' r1 r2 r3 r4 hen)
theorem cell_six_new (w : World) (x0 x1 x2 x3 x4 x5 : Value) (t : TypeId) : ∀ (j : Nat) (u : Value), [x0, x1, x2, x3, x4, x5][j]? = some u → (w.alloc (.cells #[x0, x1, x2, x3, x4, x5] t)).cell? ((⟨w.heap.size, 0, none⟩ : Addr).add j) = some u := by
  intro j u hj
  match j, hj with
  | 0, hj => simp at hj; subst hj; simp [Addr.add]
  | 1, hj => simp at hj; subst hj; simp [Addr.add]
  | 2, hj => simp at hj; subst hj; simp [Addr.add]
  | 3, hj => simp at hj; subst hj; simp [Addr.add]
  | 4, hj => simp at hj; subst hj; simp [Addr.add]
  | 5, hj => simp at hj; subst hj; simp [Addr.add]
theorem ownsRow_succS {w : World} {base e n size : Nat} {v : Value} {xs : List Value} (h : w.ownsRow base e size v (n + 1) xs) : ∃ g cap, v = .slice (some ⟨g, 0, none⟩) (n + 1) cap := by
  rcases h.2 with ⟨_, h0⟩ | ⟨g, cap, cur, e, _⟩
  · omega
  · exact ⟨g, cap, e⟩
theorem cell_six_newAt (w : World) (o : Obj) (x0 x1 x2 x3 x4 x5 : Value) (t : TypeId) : ∀ (j : Nat) (u : Value), [x0, x1, x2, x3, x4, x5][j]? = some u → ((w.alloc o).alloc (.cells #[x0, x1, x2, x3, x4, x5] t)).cell? ((⟨w.heap.size + 1, 0, none⟩ : Addr).add j) = some u := by
  have := cell_six_new (w.alloc o) x0 x1 x2 x3 x4 x5 t
  simpa using this
/-- What stands while the entries are collected. -/
structure InO (w0 : World) (g0 bm a r : Nat) (L got : Kvs) (cnt : Nat) (v : Value) (w : World) : Prop where
  row : ERow w v got
  own : ∀ b, v.ownBlock = some b → g0 < b ∧ b ≠ r
  form : ∃ g cap, v = .slice (some ⟨g, 0, none⟩) got.length cap
  rng : RangeIs encS w bm r L got cnt
  cm : w.cell? ⟨g0, 0, none⟩ = some (.pointer (some ⟨a, 0, none⟩))
  c1 : w.cell? ⟨a, 1, none⟩ = some (.func (.func 48) #[] #[])
  low : a < g0 ∧ bm < g0 ∧ g0 < r
  below : Below w0.heap.size w0 w
  len : got.length ≤ L.length
theorem RangeIs.len {w : World} {b r cnt : Nat} {L got : Kvs} (h : RangeIs encS w b r L got cnt) : got.length ≤ L.length := by
  obtain ⟨_, _, _, _, _, _, hp⟩ := h
  have := hp.length_eq
  rw [List.length_append] at this
  omega
theorem InO.row3 {w0 w w3 : World} {g0 bm a r : Nat} {L got : Kvs} {cnt : Nat} {v : Value} (h : InO w0 g0 bm a r L got cnt v w) (hg : w.grownBy w3 (some r)) : ERow w3 v got :=
  h.row.of fun k hk => hg.block k (World.ownsRow.lt h.row k hk).2 fun e => by cases e; exact (h.own _ hk).2 rfl
theorem InO.step {w0 w w3 w5 : World} {g0 bm a r : Nat} {L got : Kvs} {cnt cnt' : Nat} {v v5 : Value} {x : Kk × Nm} {o1 o2 : Obj} (h : InO w0 g0 bm a r L got cnt v w) (hb0 : w0.heap.size ≤ g0) (hr : RangeIs encS w3 bm r L (got ++ [x]) cnt') (hg : w.grownBy w3 (some r)) (hz : w3.heap.size = w.heap.size)
    (r1 : w5.ownsRow 0 128 6 v5 (got.length + 1) (eC got ++ [.int .u8 x.1.1, .int .u8 x.1.2, .int .u64 (lm x.2.1 0), .int .u64 (lm x.2.1 1), .int .u64 (lm x.2.1 2), .int .u64 (lm x.2.1 3)])) (r2 : ((w3.alloc o1).alloc o2).grownBy w5 v.ownBlock) (r4 : v5.ownBlock = v.ownBlock ∨ v5.ownBlock = some ((w3.alloc o1).alloc o2).heap.size) :
    InO w0 g0 bm a r L (got ++ [x]) cnt' v5 w5 := by
  have lr := hr.lt
  have lg : g0 < w.heap.size := by obtain ⟨cs, t, f, e⟩ := cells_of_cellS h.cm; exact (Array.getElem?_eq_some_iff.1 e).1
  have old : ∀ k, k < w.heap.size → k ≠ r → v.ownBlock ≠ some k → w5.heap[k]? = w.heap[k]? := fun k hk h1 h2 => by
    rw [r2.block k (by simp; omega) (fun e => h2 e.symm), Below.heap_alloc _ _ _ (by simp; omega), Below.heap_alloc _ _ _ (by omega), hg.block k hk (fun e => by cases e; exact h1 rfl)]
  have old3 : ∀ k, k < w3.heap.size → v.ownBlock ≠ some k → w5.heap[k]? = w3.heap[k]? := fun k hk h2 => by
    rw [r2.block k (by simp; omega) (fun e => h2 e.symm), Below.heap_alloc _ _ _ (by simp; omega), Below.heap_alloc _ _ _ hk]
  have hlen : (got ++ [x]).length = got.length + 1 := by simp
  refine ⟨?_, fun b hb => ?_, ?_, hr.of encS (old3 bm (by have := h.low; omega) fun e => by have := (h.own _ e).1; have := h.low.2.1; omega) (old3 r lr fun e => (h.own _ e).2 rfl),
    (World.cell?_of_block (w := w) (a := ⟨g0, 0, none⟩) (old g0 lg (by have := h.low; omega) fun e => by have := (h.own _ e).1; omega)).trans h.cm,
    (World.cell?_of_block (w := w) (a := ⟨a, 1, none⟩) (old a (by have := h.low; omega) (by have := h.low; omega) fun e => by have := (h.own _ e).1; have := h.low; omega)).trans h.c1, h.low, ?_, ?_⟩
  · show w5.ownsRow 0 _ 6 v5 (got ++ [x]).length (eC (got ++ [x]))
    rw [hlen, eC_append, eC_one]
    exact r1
  · rcases r4 with e | e
    · exact h.own b (by rw [← e]; exact hb)
    · rw [hb] at e
      simp at e
      have := h.low
      exact ⟨by omega, by omega⟩
  · obtain ⟨g1, cap1, e⟩ := ownsRow_succS r1
    exact ⟨g1, cap1, by rw [hlen]; exact e⟩
  · have b3 : Below w0.heap.size w0 w3 := h.below.grown hg h.below.size (fun k e => by cases e; have := h.low; omega)
    exact (bAl (bAl b3)).grown r2 (bAl (bAl b3)).size (fun k e => by have := (h.own k e).1; omega)
  · have := hr.len
    rwa [hlen] at this ⊢
set_option maxRecDepth 100000 in
set_option maxHeartbeats 4000000 in
theorem order_any {w : World} {S Z : Nat → Prop} {bj : Jb} {A : List Nat} {mb : Nat → Nat} {X : Nat → Kvs} {ds : Deeds} (hs : St w S Z bj A mb X ds) {a : Nat} (ha : a ∈ A) (hlen : (X a).length ≤ 100000) :
    Calls Try.prog 71 #[.pointer (some ⟨a, 0, none⟩)] w fun e w' => ∃ g cap, e = .returned (.slice (some ⟨g, 0, none⟩) (X a).length cap) ∧ ERow w' (.slice (some ⟨g, 0, none⟩) (X a).length cap) (X a) ∧ w.heap.size ≤ g ∧ Below w.heap.size w w' := by
  have hmf : ∀ (fn : Fn) (first cap : Array Value) (w : World), (Instr.makeFunc fn first cap).run Try.prog w = .ok (.func fn first cap) w := fun _ _ _ _ => rfl
  obtain ⟨i0, hi, hz0, hz1, hz2⟩ := info_parts infoEnt
  have la := hs.low a (hs.stat a (hs.box a ha).1)
  have lb := (hs.map a ha).lt
  have hm := hs.map a ha
  have hL := hide (hs.srt a)
  have c1 := (hs.box a ha).2.2.c1
  have c2 := (hs.box a ha).2.2.c2
  clear hs
  generalize mb a = bm at *
  generalize X a = L at *
  have HM : Hid (∀ w', Below w.heap.size w w' → MapIs encS w' bm L) := fun w' hb => hm.of _ (hb.block _ lb)
  have HC1 := hide c1
  have LA := hide la
  have LB := hide lb
  have hx : a ≠ w.heap.size := Nat.ne_of_lt la
  clear hm c1 lb
  have HW1 : Hid (∀ w1, (w.alloc (.cells #[.pointer (some ⟨a, 0, none⟩)] 98)).grownBy w1 none → Hid (Below w.heap.size w w1) ∧ w1.cell? ⟨w.heap.size, 0, none⟩ = some (.pointer (some ⟨a, 0, none⟩)) ∧ w1.cell? ⟨a, 2, none⟩ = some (.map (some bm))) := fun w1 hg => by
    have hb : Below w.heap.size w w1 := (bAl (bMe w)).grown hg (by simp) (fun k e => by cases e)
    refine ⟨hb, ?_, (World.cell?_of_block (w := w) (a := ⟨a, 2, none⟩) (hb.block a LA.out)).trans c2⟩
    exact (World.cell?_of_block (w := w.alloc _) (a := ⟨w.heap.size, 0, none⟩) (hg.block _ (by simp) (by simp))).trans (by simp [go_sem])
  go_enter Try.func71, Try.ntmps71
  go_wp2_with (first
    | (at_len; refine wpList_mlen _ rfl _ rfl rfl (HM.out _ (bAl (bMe w))) ?_)
    | (at_make; refine wpList_make_own _ rfl _ _ _ rfl 0 128 i0 (.agg #[.int .u8 0, .int .u8 0, .int .u64 0, .int .u64 0, .int .u64 0, .int .u64 0]) 6 Try.underlying131 hi hz0 hz1 .i64 .i64 (L.length : Int) L.length rfl rfl rfl (by rw [hz2]; omega) (by unfold maxLen; omega) (Nat.zero_le _) ?_; intro w1 r1 r2; obtain ⟨B1, c0w, c2w⟩ := HW1.out w1 r2; have R1 := hide r1; have R2 := hide r2; clear r1 r2)
    | (at_range; refine wpList_mrange _ rfl _ rfl rfl (HM.out _ B1.out) ?_; intro w2 q1 q2 q3; have Q1 := hide q1; have Q2 := hide q2; have Q3 := hide q3; clear q1 q2 q3))
  go_frame
  have hz := B1.out.size
  have lr : w.heap.size < w1.heap.size := by obtain ⟨cs, t, f, e⟩ := cells_of_cellS c0w; exact (Array.getElem?_eq_some_iff.1 e).1
  have old2 : ∀ k, k < w1.heap.size → w2.heap[k]? = w1.heap[k]? := fun k hk => Q2.out.block k hk (by simp)
  have I0 : Hid (InO w w.heap.size bm a w1.heap.size L [] L.length (.slice (some ⟨w.heap.size + 1, 0, none⟩) 0 L.length) w2) := by
    have hr1 : w1.ownsRow 0 128 6 (.slice (some ⟨w.heap.size + 1, 0, none⟩) 0 L.length) 0 [] := by have := R1.out; simpa using this
    have hl := World.ownsRow.lt hr1 (w.heap.size + 1) rfl
    refine ⟨ERow.of (L := []) hr1 (fun k hk => old2 k (World.ownsRow.lt hr1 k hk).2), fun b hb => ?_, ⟨_, _, rfl⟩, Q1.out, (World.cell?_of_block (w := w1) (a := ⟨w.heap.size, 0, none⟩) (old2 _ lr)).trans c0w, ?_, ⟨la, LB.out, lr⟩, bOn B1.out (by have := Q2.out; exact (bMe w1).grown this (Nat.le_refl _) (fun k e => by cases e)), Nat.zero_le _⟩
    · simp [Value.ownBlock] at hb
      omega
    · exact (World.cell?_of_block (w := w1) (a := ⟨a, 1, none⟩) (old2 a (by omega))).trans ((World.cell?_of_block (w := w) (a := ⟨a, 1, none⟩) (B1.out.block a la)).trans HC1.out)
  generalize w1.heap.size = r at *
  clear c0w c2w R1 R2 Q1 Q2 Q3 B1 hz lr old2 HW1 c2 hx
  go_loopw [3] (fun v wr => ∃ got cnt, InO w w.heap.size bm a r L got cnt v wr) (fun _ wr => wr.rangeLeft bm r)
  case atStart => exact ⟨[], L.length, I0.out⟩
  case round =>
    obtain ⟨got, cnt, hI⟩ := hrel
    obtain ⟨g, cap, rfl⟩ := hI.form
    have HI := hide hI
    have hgl : (got.length : Int) ≤ 100000 := by have := hI.len; omega
    have hgl2 := hI.len
    clear hI I0
    go_wp2_with (at_next; refine wpList_mnext _ rfl _ rfl rfl HI.out.rng hL.out ?_ ?_)
    · intro hp
      have hg0 := HI.out.own g rfl
      have hlow := HI.out.low
      have hs1 := sort_any HI.out.row hp hL.out HI.out.cm HI.out.c1 (by omega) (by omega) (by omega)
      have HS1 := hide hs1
      have HP := hide hp.length_eq
      have HB := hide (And.intro hg0.1 HI.out.below)
      clear hs1 hp hg0 hlow hlen HI
      go_wp2_with (go_at_call 77; refine HS1.out.mono ?_; clear HS1; rintro e w9 ⟨rfl, p1, p2⟩)
      go_ret
      have hb2 : Below w.heap.size w w9 := HB.out.2.grown p2 HB.out.2.size (fun k e => by cases e; have := HB.out.1; omega)
      rw [← HP.out]
      rw [HP.out] at p1 ⊢
      exact ⟨g, cap, rfl, p1, Nat.le_of_lt HB.out.1, hb2⟩
    · intro k1 k2 v hv w3 cnt' q1 q2 q3 q4 hen
      have R3 := hide (HI.out.row3 q3)
      have Q1 := hide q1
      have Q3 := hide q3
      have Q4 := hide q4
      have HL0 := hide (HI.out.rng.left encS)
      have HQ2 := hide q2
      clear q1 q2 q3 q4
      go_wp2_with (at_builtin; refine wpList_append_own_at _ rfl _ _ 131 rfl 0 128 i0 (.agg #[.int .u8 0, .int .u8 0, .int .u64 0, .int .u64 0, .int .u64 0, .int .u64 0]) 6 40 Try.underlying131 hi hz0 hz1 hz2 rfl (by decide) (.slice (some ⟨g, 0, none⟩) got.length cap) got.length (eC got) rfl ((R3.out.alloc _).alloc _) ⟨w3.heap.size + 1, 0, none⟩ 1 1 [.int .u8 k1, .int .u8 k2, .int .u64 (lm v 0), .int .u64 (lm v 1), .int .u64 (lm v 2), .int .u64 (lm v 3)] rfl rfl (cell_six_newAt _ _ _ _ _ _ _ _ _) (by intro u hu; simp at hu; rcases hu with rfl | rfl | rfl | rfl | rfl | rfl <;> rfl) (by unfold maxLen; omega) (by omega) (Nat.zero_le _) ?_; intro v1 w5 r1 r2 _ r4; obtain ⟨g1, cap1, rfl⟩ := ownsRow_succS r1; have R1 := hide r1; have R2 := hide r2; have R4 := hide r4; clear r1 r2 r4)
      have I5 := HI.out.step (Nat.le_refl _) Q1.out Q3.out Q4.out R1.out R2.out R4.out
      go_roundw
      case rel => exact ⟨got ++ [((k1, k2), ⟨v, hv⟩)], cnt', I5⟩
      case measure => rw [I5.rng.left encS, HL0.out]; exact HQ2.out
end Go.Proofs.Ytncnilplmklccaa
