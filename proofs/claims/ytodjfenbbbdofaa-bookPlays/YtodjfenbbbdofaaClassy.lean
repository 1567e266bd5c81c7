/- Cells in memory that a call holds as its own. An act, of a book and of the document's table (gen-bookdo.py). A region that draws its order, walked once in a class of worlds of one's own choice; loads of long rows behind a guard. -/
import Derived.Test.YtodjfenbbbdofaaPackWriter
import Derived.Test.YtodjfenbbbdofaaBkSame
import Derived.Test.YtodjfenbbbdofaaTabTxt
import Derived.Test.YtodjfenbbbdofaaBkActsMem
import Derived.Test.YtodjfenbbbdofaaHide
import Derived.BigQuiet
import Derived.Deep.MidRow
/- Cells in memory that a call holds as its own. -/
namespace Go.Proofs.Ytodjfenbbbdofaa
open Go.RowKit Go.Lib

/-- Block g of w holds these cells, and may be written. -/
structure VRow (w : World) (g : Nat) (vs : List Value) : Prop where
  lt : g < w.heap.size
  range : w.rangeAt g 0 vs
  fr : ∀ o, w.frozen? ⟨g, o, none⟩ = false
theorem VRow.of {w w' : World} {g : Nat} {vs : List Value} (h : VRow w g vs) (hs : w.heap.size ≤ w'.heap.size) (hb : w'.heap[g]? = w.heap[g]?) : VRow w' g vs :=
  ⟨Nat.lt_of_lt_of_le h.lt hs, fun j v hv => (World.cell?_of_block (w := w) (a := ⟨g, 0 + j, none⟩) hb).trans (h.range j v hv), fun o => (World.frozen?_of_block (w := w) (a := ⟨g, o, none⟩) hb).trans (h.fr o)⟩
theorem VRow.after {w w1 w' : World} {g : Nat} {vs : List Value} (h : VRow w g vs) (hb : Below w1.heap.size w1 w') (e : w1.heap = w.heap) : VRow w' g vs :=
  h.of (by rw [← e]; exact hb.size) (by rw [hb.block g (by rw [e]; exact h.lt), e])
theorem VRow.past {w : World} {g : Nat} {vs : List Value} (h : VRow w g vs) (o : Obj) : VRow (w.alloc o) g vs := h.of (by simp) (Below.heap_alloc _ _ _ h.lt)
theorem VRow.wrote {w w' : World} {g g' : Nat} {vs : List Value} {ao ao' : Option Addr} (h : VRow w g vs) (hb : Wrote g' ao ao' w w') (hne : g ≠ g') (hr : blk ao ≠ some g) : VRow w' g vs :=
  h.of hb.size (hb.block g h.lt hne hr)
theorem VRow.cell {w : World} {g : Nat} {vs : List Value} (h : VRow w g vs) (j : Nat) {v : Value} (hv : vs[j]? = some v) : w.cell? ⟨g, j, none⟩ = some v := by
  have := h.range j v hv; rwa [Nat.zero_add] at this
/-- A box of zero values, and cells stored into it. -/
theorem VRow.made (w : World) (zs : Array Value) (t : TypeId) (vs : List Value) (hl : zs.size = vs.length) : VRow ((w.alloc (.cells zs t)).setCells w.heap.size 0 vs) w.heap.size vs ∧ Below w.heap.size w ((w.alloc (.cells zs t)).setCells w.heap.size 0 vs) := by
  have ht : (w.alloc (.cells zs t)).there w.heap.size 0 vs.length := by
    intro j hj
    rw [Nat.zero_add]
    exact ⟨by rw [World.cell?_alloc_at _ _ _ _ rfl]; simp; omega, World.frozen?_alloc_at _ _ _ _ rfl⟩
  refine ⟨⟨?_, World.rangeAt_setCells_same _ _ _ _ ht, fun o => ?_⟩, setCells_below (bAl (bMe w)) (Nat.le_refl _) _ _⟩
  · rw [setCells_size]; simp
  · rw [World.frozen?_setCells]; exact World.frozen?_alloc_at _ _ _ _ rfl
theorem VRow.there (w : World) (zs : Array Value) (t : TypeId) (n : Nat) (hl : zs.size = n) : (w.alloc (.cells zs t)).there w.heap.size 0 n := by
  subst hl
  intro j hj
  rw [Nat.zero_add]
  exact ⟨by rw [World.cell?_alloc_at _ _ _ _ rfl]; simp [hj], World.frozen?_alloc_at _ _ _ _ rfl⟩

theorem storing_new (w : World) (zs : Array Value) (t : TypeId) (vs : List Value) (hl : zs.size = vs.length) (h1 : ∀ v ∈ vs, v.oneCell' = true) : (storeCells ⟨w.heap.size, 0, none⟩ vs).run Try.prog (w.alloc (.cells zs t)) = .ok () ((w.alloc (.cells zs t)).setCells w.heap.size 0 vs) := by
  have ht := VRow.there w zs t vs.length hl
  have := run_storeCells_cells (P := Try.prog) w.heap.size 0 vs 0 (w.alloc (.cells zs t)) (fun j hj => (ht j hj).1) (fun j hj => (ht j hj).2) h1
  rwa [Nat.zero_add] at this
end Go.Proofs.Ytodjfenbbbdofaa

/- An act, of a book and of the document's table (gen-bookdo.py). -/
namespace Go.Proofs.Ytodjfenbbbdofaa
set_option linter.unusedSimpArgs false
set_option linter.unusedVariables false
open Go.RowKit Go.Lib
attribute [local go_sem] setCell_drewN alloc_drewN

/-- An act's cells. -/
def acV (x : Ac) : List Value := [.int .u8 x.k, .int .u8 x.t, .int .u8 x.f, .int .u8 x.o, .int .u64 (lm x.n 0), .int .u64 (lm x.n 1), .int .u64 (lm x.n 2), .int .u64 (lm x.n 3)]
theorem VRow.box (w : World) (vs : List Value) (t : TypeId) {g : Nat} (e : w.heap.size = g) : VRow (w.alloc (.cells vs.toArray t)) g vs := by
  subst e
  refine ⟨by simp, fun j v hv => ?_, fun o => World.frozen?_alloc_at _ _ _ _ rfl⟩
  rw [World.cell?_alloc_at _ _ _ _ rfl, Nat.zero_add]
  simpa using hv
theorem VRow.num {w : World} {g : Nat} {x : Ac} (h : VRow w g (acV x)) : w.rangeAt g 4 [.int .u64 (lm x.n 0), .int .u64 (lm x.n 1), .int .u64 (lm x.n 2), .int .u64 (lm x.n 3)] := by
  intro j v hv
  have hj : j < 4 := (List.getElem?_eq_some_iff.1 hv).1
  exact h.cell (4 + j) (by rcases (show j = 0 ∨ j = 1 ∨ j = 2 ∨ j = 3 by omega) with rfl | rfl | rfl | rfl <;> exact hv)
theorem URow.kp {w w' : World} {g n : Nat} {f : Nat → Int} {Fr : Nat → Prop} (h : URow w g n f) (k : Kp Fr w w') (hg : Fr g) : URow w' g n f := h.of k.1 (k.2 g hg)
theorem VRow.kp {w w' : World} {g : Nat} {vs : List Value} {Fr : Nat → Prop} (h : VRow w g vs) (k : Kp Fr w w') (hg : Fr g) : VRow w' g vs := h.of k.1 (k.2 g hg)
theorem URow.setO {w : World} {g n q o : Nat} {f : Nat → Int} (h : URow w g n f) (hne : g ≠ q) (vs : List Value) : URow (w.setCells q o vs) g n f := h.of (by rw [setCells_size]; exact Nat.le_refl _) (setCells_block _ _ _ _ _ hne)
theorem VRow.setO {w : World} {g q o : Nat} {us : List Value} (h : VRow w g us) (hne : g ≠ q) (vs : List Value) : VRow (w.setCells q o vs) g us := h.of (by rw [setCells_size]; exact Nat.le_refl _) (setCells_block _ _ _ _ _ hne)
theorem BS.setO {W w : World} {bj bb n q o : Nat} {h : Nat → Kvs} {Fr : Nat → Prop} (B : BS W w bj bb n h Fr) (hq : Fr q) (hne : q ≠ bb) (hW : W.heap.size ≤ q) (vs : List Value) : BS W (w.setCells q o vs) bj bb n h Fr :=
  B.turn hq hne (by rw [setCells_size]; exact Nat.le_refl _) (fun k _ hk => setCells_block _ _ _ _ _ hk) (setCells_below B.be hW _ _)
theorem Kp.setO {w w' : World} {q o : Nat} {Fr Fr' : Nat → Prop} (k : Kp Fr' w w') (hs : ∀ i, Fr i → Fr' i ∧ i ≠ q) (vs : List Value) : Kp Fr w (w'.setCells q o vs) :=
  ⟨by rw [setCells_size]; exact k.1, fun i hi => (setCells_block _ _ _ _ _ (hs i hi).2).trans (k.2 i (hs i hi).1)⟩
theorem Kp.trans {Fr : Nat → Prop} {w w1 w2 : World} (a : Kp Fr w w1) (b : Kp Fr w1 w2) : Kp Fr w w2 := ⟨Nat.le_trans a.1 b.1, fun k hk => (b.2 k hk).trans (a.2 k hk)⟩
theorem Kp.sub {Fr Fr' : Nat → Prop} {w w' : World} (k : Kp Fr' w w') (hs : ∀ i, Fr i → Fr' i) : Kp Fr w w' := ⟨k.1, fun i hi => k.2 i (hs i hi)⟩
/-- What an act of both gives. -/
def Done (W w : World) (bj bb n : Nat) (h : Nat → Kvs) (Fr : Nat → Prop) (e : Ending) (w' : World) : Prop :=
  ∃ n' h', e = .returned (.tuple #[tv (tb (h' n')), .bool true]) ∧ BS W w' bj bb n' h' Fr ∧ Kp Fr w w' ∧ n ≤ n' ∧ n' ≤ n + 2 ∧ ∀ m, m ≤ n → h' m = h m
/-- What stands when the act's answer of the document has come. -/
structure DoS (W w w1 : World) (bj bb n : Nat) (h : Nat → Kvs) (Fr : Nat → Prop) (g gv : Nat) (x : Ac) (V X : Nat → Int) : Prop where
  bs : BS W w1 bj bb n h (fun k => Fr k ∨ (g ≤ k ∧ k ≤ gv))
  val : URow w1 gv 288 V
  act : VRow w1 (g + 1) (acV x)
  res : URow w1 (g + 2) 288 X
  kp : Kp Fr w w1
  far : g + 2 < gv
theorem DoS.store {W w w1 : World} {bj bb n : Nat} {h : Nat → Kvs} {Fr : Nat → Prop} {g gv : Nat} {x : Ac} {V X : Nat → Int} (s : DoS W w w1 bj bb n h Fr g gv x V X) (hb : bb < g) (hW : W.heap.size ≤ g) (hF : ∀ k, Fr k → k < g) (Y : Nat → Int) : DoS W w (w1.setCells (g + 2) 0 (rowU 288 Y)) bj bb n h Fr g gv x V Y :=
  have hf := s.far
  ⟨s.bs.setO (.inr ⟨by omega, by omega⟩) (by omega) (by omega) _, s.val.setO (by omega) _, s.act.setO (by omega) _, s.res.stored Y, s.kp.setO (fun i hi => ⟨hi, by have := hF i hi; omega⟩) _, hf⟩
theorem DoS.did {W w w1 w2 : World} {bj bb n n' : Nat} {h h' : Nat → Kvs} {Fr : Nat → Prop} {g gv : Nat} {x : Ac} {V X : Nat → Int} (s : DoS W w w1 bj bb n h Fr g gv x V X) (b : BS W w2 bj bb n' h' (fun k => Fr k ∨ (g ≤ k ∧ k ≤ gv))) (k : Kp (fun k => Fr k ∨ (g ≤ k ∧ k ≤ gv)) w1 w2) : DoS W w w2 bj bb n' h' Fr g gv x V X :=
  have hf := s.far
  ⟨b, s.val.kp k (.inr ⟨by omega, by omega⟩), s.act.kp k (.inr ⟨by omega, by omega⟩), s.res.kp k (.inr ⟨by omega, by omega⟩), s.kp.trans (k.sub fun _ hi => .inl hi), hf⟩
theorem DoS.drew {W w w1 : World} {bj bb n : Nat} {h : Nat → Kvs} {Fr : Nat → Prop} {g gv : Nat} {x : Ac} {V X : Nat → Int} (s : DoS W w w1 bj bb n h Fr g gv x V X) : DoS W w w1.drew bj bb n h Fr g gv x V X :=
  ⟨s.bs.below (bMe w1).drew, s.val.after (bMe w1).drew rfl, s.act.after (bMe w1).drew rfl, s.res.after (bMe w1).drew rfl, s.kp.trans ⟨Nat.le_refl _, fun _ _ => rfl⟩, s.far⟩
theorem DoS.end {W w w1 : World} {bj bb n n' : Nat} {h h' : Nat → Kvs} {Fr : Nat → Prop} {g gv : Nat} {x : Ac} {V X : Nat → Int} (s : DoS W w w1 bj bb n' h' Fr g gv x V X) {L : Kvs} (nx : Nx n h n' h' L 2) : Done W w bj bb n h Fr (.returned (.tuple #[tv (tb L), .bool true])) w1 :=
  ⟨n', h', by rw [nx.now], s.bs.sub fun _ hk => .inl hk, s.kp, nx.le, nx.up, nx.was⟩
set_option maxRecDepth 100000 in
set_option maxHeartbeats 4000000 in
theorem do_mint {W w : World} {bj bb n : Nat} {h : Nat → Kvs} {Fr : Nat → Prop} {x : Ac} (B : BS W w bj bb n h Fr) (hn : n ≤ 9000) (hx : x.Ok) (hbb : bb < w.heap.size) (hk : x.k % 3 = 0) :
    Calls Try.prog 10 #[.pointer (some ⟨bb, 0, none⟩), tv (tb (h n)), .agg (acV x).toArray] w fun e w' => Done W w bj bb n h Fr e w' := by
  have hkt : x.k.tmod 3 = 0 := by rw [Int.tmod_eq_emod_of_nonneg hx.k.1]; exact hk
  have hgd := B.good
  have CR := hide (fun w => mint13_l hgd.1 hgd.2.2 w hx.t hx.f hx.n)
  have CB := hide (fun (w1 : World) (gv : Nat) (b : BS W w1 bj bb n h (fun k => Fr k ∨ (w.heap.size ≤ k ∧ k ≤ gv))) => mint_l b hx.t hx.f hx.n hn)
  have HD := hide (fun (n' : Nat) (h' : Nat → Kvs) (w1 : World) (gv : Nat) (V X : Nat → Int) (s : DoS W w w1 bj bb n' h' Fr w.heap.size gv x V X) (nx : Nx n h n' h' (mintL (h n) x.t x.f x.n) 2) => s.end nx)
  have HBB := hide hbb
  have HF := hide B.low
  have HWs := hide B.be.size
  have HTO := hide (tb_ok (h n))
  obtain ⟨T, hT⟩ : ∃ T, tb (h n) = T := ⟨_, rfl⟩
  obtain ⟨c, hc⟩ : ∃ c, mintE (h n) x.t x.f x.n = c := ⟨_, rfl⟩
  obtain ⟨LL, hL⟩ : ∃ LL, mintL (h n) x.t x.f x.n = LL := ⟨_, rfl⟩
  rw [hT, hc, hL] at CR
  rw [hc, hL] at CB
  rw [hL] at HD
  rw [hT]
  clear hT hc hL hgd hbb hx
  obtain ⟨g, hg⟩ : ∃ g, w.heap.size = g := ⟨_, rfl⟩
  obtain ⟨W1, hW⟩ : ∃ W1, ((w.alloc (.cells (rowU 288 (tl T)).toArray 36)).alloc (.cells (acV x).toArray 38)).alloc (.cells (rowU 288 (tl tz)).toArray 36) = W1 := ⟨_, rfl⟩
  rw [hg] at CB HD HBB HF HWs
  have D1 : Hid (BS W W1 bj bb n h Fr ∧ URow W1 g 288 (tl T) ∧ VRow W1 (g + 1) (acV x) ∧ URow W1 (g + 2) 288 (tl tz) ∧ Kp Fr w W1 ∧ W1.heap.size = g + 3) := by
    have hb : Below w.heap.size w W1 := by rw [← hW]; exact bAl (bAl (bAl (bMe w)))
    have hs : W1.heap.size = g + 3 := by rw [← hW]; simp [hg]
    refine ⟨B.below hb, ?_, ?_, ?_, B.kp hb, hs⟩
    · rw [← hW]; exact ((URow.box w 288 (tl T) _ hg).past _).past _
    · rw [← hW]; exact (VRow.box _ (acV x) _ (by simp [hg])).past _
    · rw [← hW]; exact URow.box _ 288 (tl tz) _ (by simp [hg])
  have B0 := hide B
  have B1 : Hid (Below w.heap.size w W1) := by rw [← hW]; exact hide (bAl (bAl (bAl (bMe w))))
  clear B
  have hW' : ((w.alloc (.cells (rowU 288 (tl T)).toArray 36)).alloc (.cells #[.int .u8 x.k, .int .u8 x.t, .int .u8 x.f, .int .u8 x.o, .int .u64 (lm x.n 0), .int .u64 (lm x.n 1), .int .u64 (lm x.n 2), .int .u64 (lm x.n 3)] 38)).alloc (.cells (rowU 288 (tl tz)).toArray 36) = W1 := hW
  have hzp := fun w => zeroTb w
  clear hW
  obtain ⟨ck, ct, cf, co⟩ : W1.cell? ⟨g + 1, 0, none⟩ = some (.int .u8 x.k) ∧ W1.cell? ⟨g + 1, 1, none⟩ = some (.int .u8 x.t) ∧ W1.cell? ⟨g + 1, 2, none⟩ = some (.int .u8 x.f) ∧ W1.cell? ⟨g + 1, 3, none⟩ = some (.int .u8 x.o) := ⟨D1.out.2.2.1.cell 0 rfl, D1.out.2.2.1.cell 1 rfl, D1.out.2.2.1.cell 2 rfl, D1.out.2.2.1.cell 3 rfl⟩
  show Calls _ _ #[_, _, .agg #[.int .u8 x.k, .int .u8 x.t, .int .u8 x.f, .int .u8 x.o, .int .u64 (lm x.n 0), .int .u64 (lm x.n 1), .int .u64 (lm x.n 2), .int .u64 (lm x.n 3)]] _ _
  go_enter Try.func10, Try.ntmps10
  go_wp2_with (first | (refine wpList_load_mid rfl 36 _ rfl g 0 rfl (rowU 288 (tl T)) _ ?hr Try.underlying36 rfl (info_tb _) ?_; (case hr => exact D1.out.2.1.range)) | (refine wpList_load_mid rfl 32 _ rfl (g + 1) 4 rfl [.int .u64 (lm x.n 0), .int .u64 (lm x.n 1), .int .u64 (lm x.n 2), .int .u64 (lm x.n 3)] _ ?hr Try.underlying32 rfl (by kernel_rfl) ?_; (case hr => exact D1.out.2.2.1.num)))
  refine (CR.out _).mono ?_
  clear CR
  rintro e w2 ⟨rfl, hb⟩
  obtain ⟨gv, hgv⟩ : ∃ gv, w2.heap.size = gv := ⟨_, rfl⟩
  obtain ⟨W3, hW3⟩ : ∃ W3, w2.alloc (.cells (rowU 288 (tl tz)).toArray 36) = W3 := ⟨_, rfl⟩
  obtain ⟨W4, hW4⟩ : ∃ W4, W3.setCells gv 0 (rowU 288 (tl (tb LL))) = W4 := ⟨_, rfl⟩
  have R3 : Hid (URow W3 gv 288 (tl tz)) := by rw [← hW3]; exact hide (URow.box w2 288 (tl tz) _ hgv)
  have X : Hid (DoS W w W4 bj bb n h Fr g gv x (tl (tb LL)) (tl tz)) := by
    obtain ⟨d1, d2, d3, d4, d5, d6⟩ := D1.out
    have h3 : Below W1.heap.size W1 W3 := by rw [← hW3]; exact bAl hb
    have hge : g + 3 ≤ gv := by rw [← d6, ← hgv]; exact hb.size
    have hlt : gv < W3.heap.size := R3.out.lt
    have b3 := BS.addP B0.out (bOn B1.out h3) (P := fun k => g ≤ k ∧ k ≤ gv) fun k hk => ⟨by rw [hg]; exact hk.1, by omega⟩
    rw [← hW4]
    exact ⟨b3.setO (.inr ⟨by omega, Nat.le_refl _⟩) (by have := HBB.out; omega) (by have := HWs.out; omega) _, R3.out.stored _, (d3.after h3 rfl).setO (by omega) _, (d4.after h3 rfl).setO (by omega) _, (d5.trans ⟨h3.size, fun k hk => h3.block k (by have := HF.out k hk; omega)⟩).setO (fun i hi => ⟨hi, by have := HF.out i hi; omega⟩) _, by omega⟩
  clear hb D1 B0 B1 ck
  go_wp2_with (refine wpList_store_mid rfl 36 _ _ rfl gv 0 (rowU 288 (tl (tb LL))).toArray rfl rfl ?hr (info_tbA _) (rowU_oneA _ _) ?_; (case hr => exact R3.out.thereA _); try simp only [List.toList_toArray]; try rw [hW4])
  replace X := hide X.out.drew
  clear R3 hW3 hW4 hgv
  refine wp_region_held_drew (S := fun w1 => URow w1 gv 288 (tl (tb LL)) ∧ VRow w1 (g + 1) (acV x)) (by kernel_rfl) ⟨X.out.val, X.out.act⟩ (fun _ => ?_)
  generalize W4.drew = v0 at *
  refine tk0 (by kernel_rfl) (by kernel_rfl) (by kernel_rfl) (fun _ _ _ h => h) ⟨X.out.val, X.out.act⟩ (yieldsIf_load_mid (by rfl) _ _ rfl (gv) (0) rfl (rowU 288 (tl (tb LL))) _ (fun _ hw => hw.1.range) Try.underlying36 rfl (info_tb _)) ?_
  simp only [Act.put, List.setIfInBounds_toArray, List.set_cons_zero, List.set_cons_succ]
  refine tk1 (v := .pointer (some ⟨bb, 0, none⟩)) (by kernel_rfl) (by kernel_rfl) (by kernel_rfl) (fun _ _ _ h => h) ⟨X.out.val, X.out.act⟩ (Or.inl ⟨by rfl, fun w hw => by go_simp; try (with_reducible rfl)⟩) ?_
  simp only [Act.put, List.setIfInBounds_toArray, List.set_cons_zero, List.set_cons_succ]
  refine tk2 (v := .pointer (some ⟨g + 1, 1, none⟩)) (by kernel_rfl) (by kernel_rfl) (by kernel_rfl) (fun _ _ _ h => h) ⟨X.out.val, X.out.act⟩ (Or.inl ⟨by rfl, fun w hw => by go_simp; try (with_reducible rfl)⟩) ?_
  simp only [Act.put, List.setIfInBounds_toArray, List.set_cons_zero, List.set_cons_succ]
  refine tk3 (v := .int .u8 x.t) (by kernel_rfl) (by kernel_rfl) (by kernel_rfl) (fun _ _ _ h => h) ⟨X.out.val, X.out.act⟩ (Or.inl ⟨by rfl, fun w hw => by have c := hw.2.cell 1 rfl; go_simp; try (with_reducible rfl)⟩) ?_
  simp only [Act.put, List.setIfInBounds_toArray, List.set_cons_zero, List.set_cons_succ]
  refine tk4 (v := .pointer (some ⟨g + 1, 2, none⟩)) (by kernel_rfl) (by kernel_rfl) (by kernel_rfl) (fun _ _ _ h => h) ⟨X.out.val, X.out.act⟩ (Or.inl ⟨by rfl, fun w hw => by go_simp; try (with_reducible rfl)⟩) ?_
  simp only [Act.put, List.setIfInBounds_toArray, List.set_cons_zero, List.set_cons_succ]
  refine tk5 (v := .int .u8 x.f) (by kernel_rfl) (by kernel_rfl) (by kernel_rfl) (fun _ _ _ h => h) ⟨X.out.val, X.out.act⟩ (Or.inl ⟨by rfl, fun w hw => by have c := hw.2.cell 2 rfl; go_simp; try (with_reducible rfl)⟩) ?_
  simp only [Act.put, List.setIfInBounds_toArray, List.set_cons_zero, List.set_cons_succ]
  refine tk6 (v := .pointer (some ⟨g + 1, 4, none⟩)) (by kernel_rfl) (by kernel_rfl) (by kernel_rfl) (fun _ _ _ h => h) ⟨X.out.val, X.out.act⟩ (Or.inl ⟨by rfl, fun w hw => by go_simp; try (with_reducible rfl)⟩) ?_
  simp only [Act.put, List.setIfInBounds_toArray, List.set_cons_zero, List.set_cons_succ]
  refine tk7 (by kernel_rfl) (by kernel_rfl) (by kernel_rfl) (fun _ _ _ h => h) ⟨X.out.val, X.out.act⟩ (yieldsIf_load_mid (by rfl) _ _ rfl (g + 1) (4) rfl ([.int .u64 (lm x.n 0), .int .u64 (lm x.n 1), .int .u64 (lm x.n 2), .int .u64 (lm x.n 3)]) _ (fun _ hw => hw.2.num) Try.underlying32 rfl (by kernel_rfl)) ?_
  simp only [Act.put, List.setIfInBounds_toArray, List.set_cons_zero, List.set_cons_succ]
  refine tk9 (v := .int .i64 c) (by kernel_rfl) (by kernel_rfl) (by kernel_rfl) (fun _ _ _ h => h) ⟨X.out.val, X.out.act⟩ (Or.inl ⟨by rfl, fun w hw => by go_simp; try (with_reducible rfl)⟩) ?_
  simp only [Act.put, List.setIfInBounds_toArray, List.set_cons_zero, List.set_cons_succ]
  refine wpAnyH_ready (rs := [8]) (by kernel_rfl) (by simp) ?_
  refine rd8 (fun K hK => ?_) AllReadyH.nil
  go_simp
  refine (CB.out v0 gv X.out.bs).mono ?_
  rintro e v1 ⟨rfl, n', h', hb, hk2, nx⟩
  simp only []
  replace X := hide (X.out.did hb hk2)
  have NX := hide nx
  clear hb hk2 nx
  refine hK.out _ _ ⟨X.out.val, X.out.act⟩ (fun _ => ?_)
  clear hK K
  refine tk10 (v := .bool true) (by kernel_rfl) (by kernel_rfl) (by kernel_rfl) (fun _ _ _ h => h) ⟨X.out.val, X.out.act⟩ (Or.inl ⟨by rfl, fun w hw => by go_simp; try (with_reducible rfl)⟩) ?_
  simp only [Act.put, List.setIfInBounds_toArray, List.set_cons_zero, List.set_cons_succ]
  refine wpAnyH_ready (rs := [11]) (by kernel_rfl) (by simp) ?_
  refine rd11 (fun K hK => ?_) AllReadyH.nil
  rw [if_pos (by rfl)]
  refine wp_store_mid _ _ _ rfl (g + 2) 0 (rowU 288 (tl (tb LL))).toArray rfl rfl (X.out.res.thereA _) (info_tbA _) (rowU_oneA _ _) ?_
  obtain ⟨v2, hw6⟩ : ∃ w6, v1.setCells (g + 2) 0 (rowU 288 (tl (tb LL))) = w6 := ⟨_, rfl⟩
  replace X := hide (X.out.store HBB.out HWs.out HF.out (tl (tb LL)))
  rw [hw6] at X
  rw [show (rowU 288 (tl (tb LL))).toArray.toList = rowU 288 (tl (tb LL)) from List.toList_toArray, hw6]
  clear hw6
  refine hK.out _ _ ⟨X.out.val, X.out.act⟩ (fun _ => ?_)
  clear hK K
  refine tk12 (v := .bool true) (by kernel_rfl) (by kernel_rfl) (by kernel_rfl) (fun _ _ _ h => h) ⟨X.out.val, X.out.act⟩ (Or.inl ⟨by rfl, fun w hw => by go_simp; try (with_reducible rfl)⟩) ?_
  simp only [Act.put, List.setIfInBounds_toArray, List.set_cons_zero, List.set_cons_succ]
  refine wpAnyH_done (by kernel_rfl) ?_ _
  go_wp2
  refine bodyPost_ret (v := .tuple #[tv (tb LL), .bool true]) ?_ rfl (HD.out _ _ _ _ _ _ X.out NX.out)
  have hlv := run_loadVar_mid (P := Try.prog) _ _ _ _ _ _ X.out.res.range Try.underlying36 rfl (info_tb _)
  exact results_two Try.results10 rfl rfl hlv
set_option maxRecDepth 100000 in
set_option maxHeartbeats 4000000 in
theorem do_burn {W w : World} {bj bb n : Nat} {h : Nat → Kvs} {Fr : Nat → Prop} {x : Ac} (B : BS W w bj bb n h Fr) (hn : n ≤ 9000) (hx : x.Ok) (hbb : bb < w.heap.size) (hk : x.k % 3 = 1) :
    Calls Try.prog 10 #[.pointer (some ⟨bb, 0, none⟩), tv (tb (h n)), .agg (acV x).toArray] w fun e w' => Done W w bj bb n h Fr e w' := by
  have hkt : x.k.tmod 3 = 1 := by rw [Int.tmod_eq_emod_of_nonneg hx.k.1]; exact hk
  have hgd := B.good
  have CR := hide (fun w => burn13_l hgd.1 hgd.2.2 w hx.t hx.f hx.n)
  have CB := hide (fun (w1 : World) (gv : Nat) (b : BS W w1 bj bb n h (fun k => Fr k ∨ (w.heap.size ≤ k ∧ k ≤ gv))) => burn_l b hx.t hx.f hx.n hn)
  have HD := hide (fun (n' : Nat) (h' : Nat → Kvs) (w1 : World) (gv : Nat) (V X : Nat → Int) (s : DoS W w w1 bj bb n' h' Fr w.heap.size gv x V X) (nx : Nx n h n' h' (burnL (h n) x.t x.f x.n) 2) => s.end nx)
  have HBB := hide hbb
  have HF := hide B.low
  have HWs := hide B.be.size
  have HTO := hide (tb_ok (h n))
  obtain ⟨T, hT⟩ : ∃ T, tb (h n) = T := ⟨_, rfl⟩
  obtain ⟨c, hc⟩ : ∃ c, burnE (h n) x.t x.f x.n = c := ⟨_, rfl⟩
  obtain ⟨LL, hL⟩ : ∃ LL, burnL (h n) x.t x.f x.n = LL := ⟨_, rfl⟩
  rw [hT, hc, hL] at CR
  rw [hc, hL] at CB
  rw [hL] at HD
  rw [hT]
  clear hT hc hL hgd hbb hx
  obtain ⟨g, hg⟩ : ∃ g, w.heap.size = g := ⟨_, rfl⟩
  obtain ⟨W1, hW⟩ : ∃ W1, ((w.alloc (.cells (rowU 288 (tl T)).toArray 36)).alloc (.cells (acV x).toArray 38)).alloc (.cells (rowU 288 (tl tz)).toArray 36) = W1 := ⟨_, rfl⟩
  rw [hg] at CB HD HBB HF HWs
  have D1 : Hid (BS W W1 bj bb n h Fr ∧ URow W1 g 288 (tl T) ∧ VRow W1 (g + 1) (acV x) ∧ URow W1 (g + 2) 288 (tl tz) ∧ Kp Fr w W1 ∧ W1.heap.size = g + 3) := by
    have hb : Below w.heap.size w W1 := by rw [← hW]; exact bAl (bAl (bAl (bMe w)))
    have hs : W1.heap.size = g + 3 := by rw [← hW]; simp [hg]
    refine ⟨B.below hb, ?_, ?_, ?_, B.kp hb, hs⟩
    · rw [← hW]; exact ((URow.box w 288 (tl T) _ hg).past _).past _
    · rw [← hW]; exact (VRow.box _ (acV x) _ (by simp [hg])).past _
    · rw [← hW]; exact URow.box _ 288 (tl tz) _ (by simp [hg])
  have B0 := hide B
  have B1 : Hid (Below w.heap.size w W1) := by rw [← hW]; exact hide (bAl (bAl (bAl (bMe w))))
  clear B
  have hW' : ((w.alloc (.cells (rowU 288 (tl T)).toArray 36)).alloc (.cells #[.int .u8 x.k, .int .u8 x.t, .int .u8 x.f, .int .u8 x.o, .int .u64 (lm x.n 0), .int .u64 (lm x.n 1), .int .u64 (lm x.n 2), .int .u64 (lm x.n 3)] 38)).alloc (.cells (rowU 288 (tl tz)).toArray 36) = W1 := hW
  have hzp := fun w => zeroTb w
  clear hW
  obtain ⟨ck, ct, cf, co⟩ : W1.cell? ⟨g + 1, 0, none⟩ = some (.int .u8 x.k) ∧ W1.cell? ⟨g + 1, 1, none⟩ = some (.int .u8 x.t) ∧ W1.cell? ⟨g + 1, 2, none⟩ = some (.int .u8 x.f) ∧ W1.cell? ⟨g + 1, 3, none⟩ = some (.int .u8 x.o) := ⟨D1.out.2.2.1.cell 0 rfl, D1.out.2.2.1.cell 1 rfl, D1.out.2.2.1.cell 2 rfl, D1.out.2.2.1.cell 3 rfl⟩
  show Calls _ _ #[_, _, .agg #[.int .u8 x.k, .int .u8 x.t, .int .u8 x.f, .int .u8 x.o, .int .u64 (lm x.n 0), .int .u64 (lm x.n 1), .int .u64 (lm x.n 2), .int .u64 (lm x.n 3)]] _ _
  go_enter Try.func10, Try.ntmps10
  go_wp2_with (first | (refine wpList_load_mid rfl 36 _ rfl g 0 rfl (rowU 288 (tl T)) _ ?hr Try.underlying36 rfl (info_tb _) ?_; (case hr => exact D1.out.2.1.range)) | (refine wpList_load_mid rfl 32 _ rfl (g + 1) 4 rfl [.int .u64 (lm x.n 0), .int .u64 (lm x.n 1), .int .u64 (lm x.n 2), .int .u64 (lm x.n 3)] _ ?hr Try.underlying32 rfl (by kernel_rfl) ?_; (case hr => exact D1.out.2.2.1.num)))
  refine (CR.out _).mono ?_
  clear CR
  rintro e w2 ⟨rfl, hb⟩
  obtain ⟨gv, hgv⟩ : ∃ gv, w2.heap.size = gv := ⟨_, rfl⟩
  obtain ⟨W3, hW3⟩ : ∃ W3, w2.alloc (.cells (rowU 288 (tl tz)).toArray 36) = W3 := ⟨_, rfl⟩
  obtain ⟨W4, hW4⟩ : ∃ W4, W3.setCells gv 0 (rowU 288 (tl (tb LL))) = W4 := ⟨_, rfl⟩
  have R3 : Hid (URow W3 gv 288 (tl tz)) := by rw [← hW3]; exact hide (URow.box w2 288 (tl tz) _ hgv)
  have X : Hid (DoS W w W4 bj bb n h Fr g gv x (tl (tb LL)) (tl tz)) := by
    obtain ⟨d1, d2, d3, d4, d5, d6⟩ := D1.out
    have h3 : Below W1.heap.size W1 W3 := by rw [← hW3]; exact bAl hb
    have hge : g + 3 ≤ gv := by rw [← d6, ← hgv]; exact hb.size
    have hlt : gv < W3.heap.size := R3.out.lt
    have b3 := BS.addP B0.out (bOn B1.out h3) (P := fun k => g ≤ k ∧ k ≤ gv) fun k hk => ⟨by rw [hg]; exact hk.1, by omega⟩
    rw [← hW4]
    exact ⟨b3.setO (.inr ⟨by omega, Nat.le_refl _⟩) (by have := HBB.out; omega) (by have := HWs.out; omega) _, R3.out.stored _, (d3.after h3 rfl).setO (by omega) _, (d4.after h3 rfl).setO (by omega) _, (d5.trans ⟨h3.size, fun k hk => h3.block k (by have := HF.out k hk; omega)⟩).setO (fun i hi => ⟨hi, by have := HF.out i hi; omega⟩) _, by omega⟩
  clear hb D1 B0 B1 ck
  go_wp2_with (refine wpList_store_mid rfl 36 _ _ rfl gv 0 (rowU 288 (tl (tb LL))).toArray rfl rfl ?hr (info_tbA _) (rowU_oneA _ _) ?_; (case hr => exact R3.out.thereA _); try simp only [List.toList_toArray]; try rw [hW4])
  replace X := hide X.out.drew
  clear R3 hW3 hW4 hgv
  refine wp_region_held_drew (S := fun w1 => URow w1 gv 288 (tl (tb LL)) ∧ VRow w1 (g + 1) (acV x)) (by kernel_rfl) ⟨X.out.val, X.out.act⟩ (fun _ => ?_)
  generalize W4.drew = v0 at *
  refine tk0 (by kernel_rfl) (by kernel_rfl) (by kernel_rfl) (fun _ _ _ h => h) ⟨X.out.val, X.out.act⟩ (yieldsIf_load_mid (by rfl) _ _ rfl (gv) (0) rfl (rowU 288 (tl (tb LL))) _ (fun _ hw => hw.1.range) Try.underlying36 rfl (info_tb _)) ?_
  simp only [Act.put, List.setIfInBounds_toArray, List.set_cons_zero, List.set_cons_succ]
  refine tk1 (v := .pointer (some ⟨bb, 0, none⟩)) (by kernel_rfl) (by kernel_rfl) (by kernel_rfl) (fun _ _ _ h => h) ⟨X.out.val, X.out.act⟩ (Or.inl ⟨by rfl, fun w hw => by go_simp; try (with_reducible rfl)⟩) ?_
  simp only [Act.put, List.setIfInBounds_toArray, List.set_cons_zero, List.set_cons_succ]
  refine tk2 (v := .pointer (some ⟨g + 1, 1, none⟩)) (by kernel_rfl) (by kernel_rfl) (by kernel_rfl) (fun _ _ _ h => h) ⟨X.out.val, X.out.act⟩ (Or.inl ⟨by rfl, fun w hw => by go_simp; try (with_reducible rfl)⟩) ?_
  simp only [Act.put, List.setIfInBounds_toArray, List.set_cons_zero, List.set_cons_succ]
  refine tk3 (v := .int .u8 x.t) (by kernel_rfl) (by kernel_rfl) (by kernel_rfl) (fun _ _ _ h => h) ⟨X.out.val, X.out.act⟩ (Or.inl ⟨by rfl, fun w hw => by have c := hw.2.cell 1 rfl; go_simp; try (with_reducible rfl)⟩) ?_
  simp only [Act.put, List.setIfInBounds_toArray, List.set_cons_zero, List.set_cons_succ]
  refine tk4 (v := .pointer (some ⟨g + 1, 2, none⟩)) (by kernel_rfl) (by kernel_rfl) (by kernel_rfl) (fun _ _ _ h => h) ⟨X.out.val, X.out.act⟩ (Or.inl ⟨by rfl, fun w hw => by go_simp; try (with_reducible rfl)⟩) ?_
  simp only [Act.put, List.setIfInBounds_toArray, List.set_cons_zero, List.set_cons_succ]
  refine tk5 (v := .int .u8 x.f) (by kernel_rfl) (by kernel_rfl) (by kernel_rfl) (fun _ _ _ h => h) ⟨X.out.val, X.out.act⟩ (Or.inl ⟨by rfl, fun w hw => by have c := hw.2.cell 2 rfl; go_simp; try (with_reducible rfl)⟩) ?_
  simp only [Act.put, List.setIfInBounds_toArray, List.set_cons_zero, List.set_cons_succ]
  refine tk6 (v := .pointer (some ⟨g + 1, 4, none⟩)) (by kernel_rfl) (by kernel_rfl) (by kernel_rfl) (fun _ _ _ h => h) ⟨X.out.val, X.out.act⟩ (Or.inl ⟨by rfl, fun w hw => by go_simp; try (with_reducible rfl)⟩) ?_
  simp only [Act.put, List.setIfInBounds_toArray, List.set_cons_zero, List.set_cons_succ]
  refine tk7 (by kernel_rfl) (by kernel_rfl) (by kernel_rfl) (fun _ _ _ h => h) ⟨X.out.val, X.out.act⟩ (yieldsIf_load_mid (by rfl) _ _ rfl (g + 1) (4) rfl ([.int .u64 (lm x.n 0), .int .u64 (lm x.n 1), .int .u64 (lm x.n 2), .int .u64 (lm x.n 3)]) _ (fun _ hw => hw.2.num) Try.underlying32 rfl (by kernel_rfl)) ?_
  simp only [Act.put, List.setIfInBounds_toArray, List.set_cons_zero, List.set_cons_succ]
  refine tk9 (v := .int .i64 c) (by kernel_rfl) (by kernel_rfl) (by kernel_rfl) (fun _ _ _ h => h) ⟨X.out.val, X.out.act⟩ (Or.inl ⟨by rfl, fun w hw => by go_simp; try (with_reducible rfl)⟩) ?_
  simp only [Act.put, List.setIfInBounds_toArray, List.set_cons_zero, List.set_cons_succ]
  refine wpAnyH_ready (rs := [8]) (by kernel_rfl) (by simp) ?_
  refine rd8 (fun K hK => ?_) AllReadyH.nil
  go_simp
  refine (CB.out v0 gv X.out.bs).mono ?_
  rintro e v1 ⟨rfl, n', h', hb, hk2, nx⟩
  simp only []
  replace X := hide (X.out.did hb hk2)
  have NX := hide nx
  clear hb hk2 nx
  refine hK.out _ _ ⟨X.out.val, X.out.act⟩ (fun _ => ?_)
  clear hK K
  refine tk10 (v := .bool true) (by kernel_rfl) (by kernel_rfl) (by kernel_rfl) (fun _ _ _ h => h) ⟨X.out.val, X.out.act⟩ (Or.inl ⟨by rfl, fun w hw => by go_simp; try (with_reducible rfl)⟩) ?_
  simp only [Act.put, List.setIfInBounds_toArray, List.set_cons_zero, List.set_cons_succ]
  refine wpAnyH_ready (rs := [11]) (by kernel_rfl) (by simp) ?_
  refine rd11 (fun K hK => ?_) AllReadyH.nil
  rw [if_pos (by rfl)]
  refine wp_store_mid _ _ _ rfl (g + 2) 0 (rowU 288 (tl (tb LL))).toArray rfl rfl (X.out.res.thereA _) (info_tbA _) (rowU_oneA _ _) ?_
  obtain ⟨v2, hw6⟩ : ∃ w6, v1.setCells (g + 2) 0 (rowU 288 (tl (tb LL))) = w6 := ⟨_, rfl⟩
  replace X := hide (X.out.store HBB.out HWs.out HF.out (tl (tb LL)))
  rw [hw6] at X
  rw [show (rowU 288 (tl (tb LL))).toArray.toList = rowU 288 (tl (tb LL)) from List.toList_toArray, hw6]
  clear hw6
  refine hK.out _ _ ⟨X.out.val, X.out.act⟩ (fun _ => ?_)
  clear hK K
  refine tk12 (v := .bool true) (by kernel_rfl) (by kernel_rfl) (by kernel_rfl) (fun _ _ _ h => h) ⟨X.out.val, X.out.act⟩ (Or.inl ⟨by rfl, fun w hw => by go_simp; try (with_reducible rfl)⟩) ?_
  simp only [Act.put, List.setIfInBounds_toArray, List.set_cons_zero, List.set_cons_succ]
  refine wpAnyH_done (by kernel_rfl) ?_ _
  go_wp2
  refine bodyPost_ret (v := .tuple #[tv (tb LL), .bool true]) ?_ rfl (HD.out _ _ _ _ _ _ X.out NX.out)
  have hlv := run_loadVar_mid (P := Try.prog) _ _ _ _ _ _ X.out.res.range Try.underlying36 rfl (info_tb _)
  exact results_two Try.results10 rfl rfl hlv
set_option maxRecDepth 100000 in
set_option maxHeartbeats 4000000 in
theorem do_move {W w : World} {bj bb n : Nat} {h : Nat → Kvs} {Fr : Nat → Prop} {x : Ac} (B : BS W w bj bb n h Fr) (hn : n ≤ 9000) (hx : x.Ok) (hbb : bb < w.heap.size) (hk : x.k % 3 = 2) :
    Calls Try.prog 10 #[.pointer (some ⟨bb, 0, none⟩), tv (tb (h n)), .agg (acV x).toArray] w fun e w' => Done W w bj bb n h Fr e w' := by
  have hkt : x.k.tmod 3 = 2 := by rw [Int.tmod_eq_emod_of_nonneg hx.k.1]; exact hk
  have hgd := B.good
  have CR := hide (fun w => move13_l hgd.1 hgd.2.2 w hx.t hx.f hx.o hx.n)
  have CB := hide (fun (w1 : World) (gv : Nat) (b : BS W w1 bj bb n h (fun k => Fr k ∨ (w.heap.size ≤ k ∧ k ≤ gv))) => move_l b hx.t hx.f hx.o hx.n hn)
  have HD := hide (fun (n' : Nat) (h' : Nat → Kvs) (w1 : World) (gv : Nat) (V X : Nat → Int) (s : DoS W w w1 bj bb n' h' Fr w.heap.size gv x V X) (nx : Nx n h n' h' (moveL (h n) x.t x.f x.o x.n) 2) => s.end nx)
  have HBB := hide hbb
  have HF := hide B.low
  have HWs := hide B.be.size
  have HTO := hide (tb_ok (h n))
  obtain ⟨T, hT⟩ : ∃ T, tb (h n) = T := ⟨_, rfl⟩
  obtain ⟨c, hc⟩ : ∃ c, moveE (h n) x.t x.f x.o x.n = c := ⟨_, rfl⟩
  obtain ⟨LL, hL⟩ : ∃ LL, moveL (h n) x.t x.f x.o x.n = LL := ⟨_, rfl⟩
  rw [hT, hc, hL] at CR
  rw [hc, hL] at CB
  rw [hL] at HD
  rw [hT]
  clear hT hc hL hgd hbb hx
  obtain ⟨g, hg⟩ : ∃ g, w.heap.size = g := ⟨_, rfl⟩
  obtain ⟨W1, hW⟩ : ∃ W1, ((w.alloc (.cells (rowU 288 (tl T)).toArray 36)).alloc (.cells (acV x).toArray 38)).alloc (.cells (rowU 288 (tl tz)).toArray 36) = W1 := ⟨_, rfl⟩
  rw [hg] at CB HD HBB HF HWs
  have D1 : Hid (BS W W1 bj bb n h Fr ∧ URow W1 g 288 (tl T) ∧ VRow W1 (g + 1) (acV x) ∧ URow W1 (g + 2) 288 (tl tz) ∧ Kp Fr w W1 ∧ W1.heap.size = g + 3) := by
    have hb : Below w.heap.size w W1 := by rw [← hW]; exact bAl (bAl (bAl (bMe w)))
    have hs : W1.heap.size = g + 3 := by rw [← hW]; simp [hg]
    refine ⟨B.below hb, ?_, ?_, ?_, B.kp hb, hs⟩
    · rw [← hW]; exact ((URow.box w 288 (tl T) _ hg).past _).past _
    · rw [← hW]; exact (VRow.box _ (acV x) _ (by simp [hg])).past _
    · rw [← hW]; exact URow.box _ 288 (tl tz) _ (by simp [hg])
  have B0 := hide B
  have B1 : Hid (Below w.heap.size w W1) := by rw [← hW]; exact hide (bAl (bAl (bAl (bMe w))))
  clear B
  have hW' : ((w.alloc (.cells (rowU 288 (tl T)).toArray 36)).alloc (.cells #[.int .u8 x.k, .int .u8 x.t, .int .u8 x.f, .int .u8 x.o, .int .u64 (lm x.n 0), .int .u64 (lm x.n 1), .int .u64 (lm x.n 2), .int .u64 (lm x.n 3)] 38)).alloc (.cells (rowU 288 (tl tz)).toArray 36) = W1 := hW
  have hzp := fun w => zeroTb w
  clear hW
  obtain ⟨ck, ct, cf, co⟩ : W1.cell? ⟨g + 1, 0, none⟩ = some (.int .u8 x.k) ∧ W1.cell? ⟨g + 1, 1, none⟩ = some (.int .u8 x.t) ∧ W1.cell? ⟨g + 1, 2, none⟩ = some (.int .u8 x.f) ∧ W1.cell? ⟨g + 1, 3, none⟩ = some (.int .u8 x.o) := ⟨D1.out.2.2.1.cell 0 rfl, D1.out.2.2.1.cell 1 rfl, D1.out.2.2.1.cell 2 rfl, D1.out.2.2.1.cell 3 rfl⟩
  show Calls _ _ #[_, _, .agg #[.int .u8 x.k, .int .u8 x.t, .int .u8 x.f, .int .u8 x.o, .int .u64 (lm x.n 0), .int .u64 (lm x.n 1), .int .u64 (lm x.n 2), .int .u64 (lm x.n 3)]] _ _
  go_enter Try.func10, Try.ntmps10
  go_wp2_with (first | (refine wpList_load_mid rfl 36 _ rfl g 0 rfl (rowU 288 (tl T)) _ ?hr Try.underlying36 rfl (info_tb _) ?_; (case hr => exact D1.out.2.1.range)) | (refine wpList_load_mid rfl 32 _ rfl (g + 1) 4 rfl [.int .u64 (lm x.n 0), .int .u64 (lm x.n 1), .int .u64 (lm x.n 2), .int .u64 (lm x.n 3)] _ ?hr Try.underlying32 rfl (by kernel_rfl) ?_; (case hr => exact D1.out.2.2.1.num)))
  refine (CR.out _).mono ?_
  clear CR
  rintro e w2 ⟨rfl, hb⟩
  obtain ⟨gv, hgv⟩ : ∃ gv, w2.heap.size = gv := ⟨_, rfl⟩
  obtain ⟨W3, hW3⟩ : ∃ W3, w2.alloc (.cells (rowU 288 (tl tz)).toArray 36) = W3 := ⟨_, rfl⟩
  obtain ⟨W4, hW4⟩ : ∃ W4, W3.setCells gv 0 (rowU 288 (tl (tb LL))) = W4 := ⟨_, rfl⟩
  have R3 : Hid (URow W3 gv 288 (tl tz)) := by rw [← hW3]; exact hide (URow.box w2 288 (tl tz) _ hgv)
  have X : Hid (DoS W w W4 bj bb n h Fr g gv x (tl (tb LL)) (tl tz)) := by
    obtain ⟨d1, d2, d3, d4, d5, d6⟩ := D1.out
    have h3 : Below W1.heap.size W1 W3 := by rw [← hW3]; exact bAl hb
    have hge : g + 3 ≤ gv := by rw [← d6, ← hgv]; exact hb.size
    have hlt : gv < W3.heap.size := R3.out.lt
    have b3 := BS.addP B0.out (bOn B1.out h3) (P := fun k => g ≤ k ∧ k ≤ gv) fun k hk => ⟨by rw [hg]; exact hk.1, by omega⟩
    rw [← hW4]
    exact ⟨b3.setO (.inr ⟨by omega, Nat.le_refl _⟩) (by have := HBB.out; omega) (by have := HWs.out; omega) _, R3.out.stored _, (d3.after h3 rfl).setO (by omega) _, (d4.after h3 rfl).setO (by omega) _, (d5.trans ⟨h3.size, fun k hk => h3.block k (by have := HF.out k hk; omega)⟩).setO (fun i hi => ⟨hi, by have := HF.out i hi; omega⟩) _, by omega⟩
  clear hb D1 B0 B1 ck
  go_wp2_with (refine wpList_store_mid rfl 36 _ _ rfl gv 0 (rowU 288 (tl (tb LL))).toArray rfl rfl ?hr (info_tbA _) (rowU_oneA _ _) ?_; (case hr => exact R3.out.thereA _); try simp only [List.toList_toArray]; try rw [hW4])
  replace X := hide X.out.drew
  clear R3 hW3 hW4 hgv
  refine wp_region_held_drew (S := fun w1 => URow w1 gv 288 (tl (tb LL)) ∧ VRow w1 (g + 1) (acV x)) (by kernel_rfl) ⟨X.out.val, X.out.act⟩ (fun _ => ?_)
  generalize W4.drew = v0 at *
  refine tk0 (by kernel_rfl) (by kernel_rfl) (by kernel_rfl) (fun _ _ _ h => h) ⟨X.out.val, X.out.act⟩ (yieldsIf_load_mid (by rfl) _ _ rfl (gv) (0) rfl (rowU 288 (tl (tb LL))) _ (fun _ hw => hw.1.range) Try.underlying36 rfl (info_tb _)) ?_
  simp only [Act.put, List.setIfInBounds_toArray, List.set_cons_zero, List.set_cons_succ]
  refine tk1 (v := .pointer (some ⟨bb, 0, none⟩)) (by kernel_rfl) (by kernel_rfl) (by kernel_rfl) (fun _ _ _ h => h) ⟨X.out.val, X.out.act⟩ (Or.inl ⟨by rfl, fun w hw => by go_simp; try (with_reducible rfl)⟩) ?_
  simp only [Act.put, List.setIfInBounds_toArray, List.set_cons_zero, List.set_cons_succ]
  refine tk2 (v := .pointer (some ⟨g + 1, 1, none⟩)) (by kernel_rfl) (by kernel_rfl) (by kernel_rfl) (fun _ _ _ h => h) ⟨X.out.val, X.out.act⟩ (Or.inl ⟨by rfl, fun w hw => by go_simp; try (with_reducible rfl)⟩) ?_
  simp only [Act.put, List.setIfInBounds_toArray, List.set_cons_zero, List.set_cons_succ]
  refine tk3 (v := .int .u8 x.t) (by kernel_rfl) (by kernel_rfl) (by kernel_rfl) (fun _ _ _ h => h) ⟨X.out.val, X.out.act⟩ (Or.inl ⟨by rfl, fun w hw => by have c := hw.2.cell 1 rfl; go_simp; try (with_reducible rfl)⟩) ?_
  simp only [Act.put, List.setIfInBounds_toArray, List.set_cons_zero, List.set_cons_succ]
  refine tk4 (v := .pointer (some ⟨g + 1, 2, none⟩)) (by kernel_rfl) (by kernel_rfl) (by kernel_rfl) (fun _ _ _ h => h) ⟨X.out.val, X.out.act⟩ (Or.inl ⟨by rfl, fun w hw => by go_simp; try (with_reducible rfl)⟩) ?_
  simp only [Act.put, List.setIfInBounds_toArray, List.set_cons_zero, List.set_cons_succ]
  refine tk5 (v := .int .u8 x.f) (by kernel_rfl) (by kernel_rfl) (by kernel_rfl) (fun _ _ _ h => h) ⟨X.out.val, X.out.act⟩ (Or.inl ⟨by rfl, fun w hw => by have c := hw.2.cell 2 rfl; go_simp; try (with_reducible rfl)⟩) ?_
  simp only [Act.put, List.setIfInBounds_toArray, List.set_cons_zero, List.set_cons_succ]
  refine tk6 (v := .pointer (some ⟨g + 1, 3, none⟩)) (by kernel_rfl) (by kernel_rfl) (by kernel_rfl) (fun _ _ _ h => h) ⟨X.out.val, X.out.act⟩ (Or.inl ⟨by rfl, fun w hw => by go_simp; try (with_reducible rfl)⟩) ?_
  simp only [Act.put, List.setIfInBounds_toArray, List.set_cons_zero, List.set_cons_succ]
  refine tk7 (v := .int .u8 x.o) (by kernel_rfl) (by kernel_rfl) (by kernel_rfl) (fun _ _ _ h => h) ⟨X.out.val, X.out.act⟩ (Or.inl ⟨by rfl, fun w hw => by have c := hw.2.cell 3 rfl; go_simp; try (with_reducible rfl)⟩) ?_
  simp only [Act.put, List.setIfInBounds_toArray, List.set_cons_zero, List.set_cons_succ]
  refine tk8 (v := .pointer (some ⟨g + 1, 4, none⟩)) (by kernel_rfl) (by kernel_rfl) (by kernel_rfl) (fun _ _ _ h => h) ⟨X.out.val, X.out.act⟩ (Or.inl ⟨by rfl, fun w hw => by go_simp; try (with_reducible rfl)⟩) ?_
  simp only [Act.put, List.setIfInBounds_toArray, List.set_cons_zero, List.set_cons_succ]
  refine tk9 (by kernel_rfl) (by kernel_rfl) (by kernel_rfl) (fun _ _ _ h => h) ⟨X.out.val, X.out.act⟩ (yieldsIf_load_mid (by rfl) _ _ rfl (g + 1) (4) rfl ([.int .u64 (lm x.n 0), .int .u64 (lm x.n 1), .int .u64 (lm x.n 2), .int .u64 (lm x.n 3)]) _ (fun _ hw => hw.2.num) Try.underlying32 rfl (by kernel_rfl)) ?_
  simp only [Act.put, List.setIfInBounds_toArray, List.set_cons_zero, List.set_cons_succ]
  refine tk11 (v := .int .i64 c) (by kernel_rfl) (by kernel_rfl) (by kernel_rfl) (fun _ _ _ h => h) ⟨X.out.val, X.out.act⟩ (Or.inl ⟨by rfl, fun w hw => by go_simp; try (with_reducible rfl)⟩) ?_
  simp only [Act.put, List.setIfInBounds_toArray, List.set_cons_zero, List.set_cons_succ]
  refine wpAnyH_ready (rs := [10]) (by kernel_rfl) (by simp) ?_
  refine rd10 (fun K hK => ?_) AllReadyH.nil
  go_simp
  refine (CB.out v0 gv X.out.bs).mono ?_
  rintro e v1 ⟨rfl, n', h', hb, hk2, nx⟩
  simp only []
  replace X := hide (X.out.did hb hk2)
  have NX := hide nx
  clear hb hk2 nx
  refine hK.out _ _ ⟨X.out.val, X.out.act⟩ (fun _ => ?_)
  clear hK K
  refine tk12 (v := .bool true) (by kernel_rfl) (by kernel_rfl) (by kernel_rfl) (fun _ _ _ h => h) ⟨X.out.val, X.out.act⟩ (Or.inl ⟨by rfl, fun w hw => by go_simp; try (with_reducible rfl)⟩) ?_
  simp only [Act.put, List.setIfInBounds_toArray, List.set_cons_zero, List.set_cons_succ]
  refine wpAnyH_ready (rs := [13]) (by kernel_rfl) (by simp) ?_
  refine rd13 (fun K hK => ?_) AllReadyH.nil
  rw [if_pos (by rfl)]
  refine wp_store_mid _ _ _ rfl (g + 2) 0 (rowU 288 (tl (tb LL))).toArray rfl rfl (X.out.res.thereA _) (info_tbA _) (rowU_oneA _ _) ?_
  obtain ⟨v2, hw6⟩ : ∃ w6, v1.setCells (g + 2) 0 (rowU 288 (tl (tb LL))) = w6 := ⟨_, rfl⟩
  replace X := hide (X.out.store HBB.out HWs.out HF.out (tl (tb LL)))
  rw [hw6] at X
  rw [show (rowU 288 (tl (tb LL))).toArray.toList = rowU 288 (tl (tb LL)) from List.toList_toArray, hw6]
  clear hw6
  refine hK.out _ _ ⟨X.out.val, X.out.act⟩ (fun _ => ?_)
  clear hK K
  refine tk14 (v := .bool true) (by kernel_rfl) (by kernel_rfl) (by kernel_rfl) (fun _ _ _ h => h) ⟨X.out.val, X.out.act⟩ (Or.inl ⟨by rfl, fun w hw => by go_simp; try (with_reducible rfl)⟩) ?_
  simp only [Act.put, List.setIfInBounds_toArray, List.set_cons_zero, List.set_cons_succ]
  refine wpAnyH_done (by kernel_rfl) ?_ _
  go_wp2
  refine bodyPost_ret (v := .tuple #[tv (tb LL), .bool true]) ?_ rfl (HD.out _ _ _ _ _ _ X.out NX.out)
  have hlv := run_loadVar_mid (P := Try.prog) _ _ _ _ _ _ X.out.res.range Try.underlying36 rfl (info_tb _)
  exact results_two Try.results10 rfl rfl hlv
theorem do_l {W w : World} {bj bb n : Nat} {h : Nat → Kvs} {Fr : Nat → Prop} {x : Ac} (B : BS W w bj bb n h Fr) (hn : n ≤ 9000) (hx : x.Ok) (hbb : bb < w.heap.size) :
    Calls Try.prog 10 #[.pointer (some ⟨bb, 0, none⟩), tv (tb (h n)), .agg (acV x).toArray] w fun e w' => Done W w bj bb n h Fr e w' := by
  rcases (show x.k % 3 = 0 ∨ x.k % 3 = 1 ∨ x.k % 3 = 2 by omega) with hk | hk | hk
  · exact do_mint B hn hx hbb hk
  · exact do_burn B hn hx hbb hk
  · exact do_move B hn hx hbb hk
end Go.Proofs.Ytodjfenbbbdofaa

/- A region that draws its order, walked once in a class of worlds of one's own choice; loads of long rows behind a guard. -/
namespace Go.Proofs.Ytodjfenbbbdofaa
open Go.RowKit

/-- 'wp_region_quiet' for a region that is written out, over any class. -/
theorem wp_region_class {P : Program} {id : Nat} {Q : Exit → Act → World → Prop} {a : Act} {w : World} {l : List Oper} (C : World → Prop) (hm : P.follows .mixedOrders = true) (hB : Region.lexB .any l.toArray = true) (hC : C w.drew)
    (h : wpQuiet P l.toArray C (fun a' => ∀ w', C w' → Q .normal a' w') l a) : (Code.region id l.toArray true).wp P Q a w :=
  wp_region_quiet (C := C) hm hB hC (by simpa using h)
/-- A load of a long row, wanted by its guard. -/
theorem wpList_load_want {P : Program} {ops : Array Oper} {rest : List Oper} {op : Oper} {a : Act} {w : World} {Q : Exit → Act → World → Prop} (ty : TypeId) (x : Operand) (ho : op.op = .load ty x)
    (b o : Nat) (hx : a.eval x = .pointer (some ⟨b, o, none⟩)) (cs : List Value) (d : TypeDesc) (hc : w.rangeAt b o cs)
    (hu : P.underlying ty = some d) (hd : d.isRow = true) (hi : (P.info? ty).map (·.size) = some cs.length) (hw : Region.wanted op (yielded ops a.tmps) = true)
    (h : wpList P ops Q rest (a.put op.dst (.agg cs.toArray)) w) : wpList P ops Q (op :: rest) a w :=
  BigFrame.wpList_want hw fun _ hK => wp_load_mid ty x ho b o hx cs d hc hu hd hi (hK _ _ h)
end Go.Proofs.Ytodjfenbbbdofaa
