/- stage's All: what it hands back, and how it goes on (a range over a function). -/
import Derived.Test.YtncnilplmklccaaBkOrder
import Derived.RangeFuncNested
import Derived.RangeFuncBound
import Derived.RangeFuncCalls
import Derived.RangeFuncLeaves
import Derived.RangeFuncBox
import Derived.Shelf.Abstract
import Derived.Shelf.RegionOpen
import Derived.OwnWalkIn
import Derived.TacticsInMore
import Derived.LoopNIn
import Derived.LoopIn
namespace Go.Proofs.Ytncnilplmklccaa
set_option linter.unusedSimpArgs false
set_option linter.unusedVariables false
set_option linter.unusedSectionVars false
open Go.RowKit Go.Lib Go.Shelf
attribute [local go_sem] setCell_drewN alloc_drewN Oper.semAt_some

/-- These blocks stay. -/
def KIv (lo hi : Nat) (W W' : World) : Prop := ∀ k, lo ≤ k → k < hi → W'.heap[k]? = W.heap[k]?
theorem KIv.t {lo hi : Nat} {A B C : World} (h : KIv lo hi A B) (k : KIv lo hi B C) : KIv lo hi A C := fun i h1 h2 => (k i h1 h2).trans (h i h1 h2)
theorem KIv.refl (lo hi : Nat) (W : World) : KIv lo hi W W := fun _ _ _ => rfl
theorem KIv.b {lo hi : Nat} {w : World} (hh : hi ≤ w.heap.size) (W : World) (l : Nat) (o o' : Obj) (hl : w.heap.size ≤ l) (_ : W.heap[l]? = some o) (_ : o.isCells = false) (_ : o.isWalk = false) : KIv lo hi W (W.putObj l o') :=
  fun _ _ h2 => World.putObj_heap_other (by omega)
/-- What an iterator captures: a box with a slice of entries, between these blocks. -/
structure It (w : World) (lo hi gb : Nat) (L : Kvs) : Prop where
  ex : ∃ g cap, w.cell? ⟨gb, 0, none⟩ = some (.slice (some ⟨g, 0, none⟩) L.length cap) ∧ ERow w (.slice (some ⟨g, 0, none⟩) L.length cap) L ∧ lo ≤ g ∧ g < hi
  bd : lo ≤ gb ∧ gb < hi
theorem It.kept {w w' : World} {lo hi gb : Nat} {L : Kvs} (h : It w lo hi gb L) (k : KIv lo hi w w') : It w' lo hi gb L := by
  obtain ⟨⟨g, cap, h1, h2, h3, h4⟩, h5, h6⟩ := h
  exact ⟨⟨g, cap, (World.cell?_of_block (w := w) (a := ⟨gb, 0, none⟩) (k gb h5 h6)).trans h1, h2.of (fun b hb => by cases hb; exact k g h3 h4), h3, h4⟩, h5, h6⟩
theorem KIv.below {w w' : World} {lo hi : Nat} (h : Below w.heap.size w w') (hh : hi ≤ w.heap.size) : KIv lo hi w w' := fun k _ h2 => h.block k (Nat.lt_of_lt_of_le h2 hh)
theorem all_any {w : World} {S Z : Nat → Prop} {bj : Jb} {A : List Nat} {mb : Nat → Nat} {X : Nat → Kvs} {ds : Deeds} (hs : St w S Z bj A mb X ds) {a : Nat} (ha : a ∈ A) (hlen : (X a).length ≤ 100000) :
    Calls Try.prog 63 #[.pointer (some ⟨a, 0, none⟩)] w fun e w' => ∃ gb, e = .returned (.func (.func 72) #[] #[.pointer (some ⟨gb, 0, none⟩)]) ∧ It w' w.heap.size w'.heap.size gb (X a) ∧ Below w.heap.size w w' := by
  have hmf : ∀ (fn : Fn) (first cap : Array Value) (w : World), (Instr.makeFunc fn first cap).run Try.prog w = .ok (.func fn first cap) w := fun _ _ _ _ => rfl
  have HO := hide (order_any hs ha hlen)
  clear hs
  generalize X a = L at *
  go_enter Try.func63, Try.ntmps63
  go_wp2_with (go_at_call 71; refine HO.out.mono ?_; clear HO; rintro e w1 ⟨g, cap, rfl, h1, h2, h3⟩)
  go_ret
  have lg := World.ownsRow.lt h1 g rfl
  refine ⟨w1.heap.size, rfl, ⟨⟨g, cap, by simp [go_sem], h1.of (fun k hk => Below.heap_alloc _ _ _ (World.ownsRow.lt h1 k hk).2), h2, by simp; omega⟩, h3.size, by simp⟩, bAl h3⟩
theorem KIv.alloc {lo hi : Nat} {W w : World} (h : KIv lo hi W w) (hh : hi ≤ W.heap.size) (o : Obj) : KIv lo hi w (w.alloc o) := fun k h1 h2 => by
  refine Below.heap_alloc _ _ _ ?_
  have e := h k h1 h2
  rw [Array.getElem?_eq_getElem (show k < W.heap.size by omega)] at e
  exact (Array.getElem?_eq_some_iff.1 e).1
set_option maxRecDepth 100000 in
set_option maxHeartbeats 4000000 in
theorem iter_in (F : Fence) (n : Nat) (hf : F.fn 72) (hro : F.round = none) (hn : 1 ≤ n) (l lo hi gb : Nat) (L : Kvs) (hlen : L.length ≤ 100000) (J Jx : Kvs → World → Prop) (W : World) (hJ : AbidesFrom W.heap.size J)
    (hY : ∀ pre x W1, x ∈ L → J pre W1 → pre.length < L.length → YieldAt F (n - 1) Try.prog l #[.agg #[.int .u8 x.1.1, .int .u8 x.1.2], .agg #[.int .u64 (lm x.2.1 0), .int .u64 (lm x.2.1 1), .int .u64 (lm x.2.1 2), .int .u64 (lm x.2.1 3)]] W1 fun e W' =>
      (e = .returned (.bool true) ∧ J (pre ++ [x]) W' ∧ KIv lo hi W1 W') ∨ (e = .returned (.bool false) ∧ Jx (pre ++ [x]) W'))
    (hI : It W lo hi gb L) (hh : hi ≤ W.heap.size) (h0 : J [] W) :
    CallsIn F n Try.prog 72 #[.func (.yield l) #[] #[], .pointer (some ⟨gb, 0, none⟩)] W fun e W' => (∃ v, e = .returned v) ∧ ((∃ ys, ys = L ∧ J ys W') ∨ (∃ pre, pre <+: L ∧ Jx pre W')) := by
  obtain ⟨g, cap, c0, hr, hg1, hg2⟩ := hI.ex
  have hcap : L.length ≤ cap := by
    rcases hr.2 with ⟨e, _⟩ | ⟨g', cap', cur, e, _, _, hc, _⟩
    · simp at e
    · simp only [Value.slice.injEq, Option.some.injEq, Addr.mk.injEq, and_true, true_and] at e
      omega
  have HR := hide hr
  have HJ := hide hJ
  have HY := hide hY
  clear hr hI hJ hY
  have hl1 : (L.length : Int) ≤ 100000 := by omega
  refine callsIn_of_wp Try.func72 rfl hf ?_ hro
  simp only [Try.ntmps72, List.size_toArray, List.length_cons, List.length_nil, Nat.reduceAdd, Nat.reduceSub, Array.replicate_succ, Array.replicate_zero, List.push_toArray, List.append_toArray, List.nil_append, List.cons_append]
  gi_wp2
  gi_loopw [7] (fun i wr => ∃ k : Nat, k ≤ L.length ∧ i = .int .i64 k ∧ J (L.take k) wr ∧ KIv lo hi W wr) (fun i _ => L.length - (intOf i).toNat)
  case atStart => exact ⟨0, Nat.zero_le _, rfl, h0, KIv.refl _ _ _⟩
  case round =>
    obtain ⟨k, hk, rfl, hJs, hK⟩ := hrel
    by_cases hlt : k < L.length
    · have hx : L[k]? = some L[k] := List.getElem?_eq_getElem hlt
      have htk : L.take (k + 1) = L.take k ++ [L[k]] := by rw [List.take_succ_eq_append_getElem hlt]
      generalize L[k] = x at hx htk
      obtain ⟨⟨x1, y1⟩, x2, hx2⟩ := x
      obtain ⟨e1, e2, e3, e4, e5, e6⟩ := eC_get L k _ hx
      have hrr : ERow wr (.slice (some ⟨g, 0, none⟩) L.length cap) L := HR.out.of (fun b hb => by cases hb; exact hK g hg1 hg2)
      have k1 : wr.cell? ⟨g, k * 6, none⟩ = some (.int .u8 x1) := by rw [World.ownsRow.cellAt hrr _ (by omega)]; exact e1
      have k2 : wr.cell? ⟨g, k * 6 + 1, none⟩ = some (.int .u8 y1) := by rw [World.ownsRow.cellAt hrr _ (by omega)]; exact e2
      have k3 : wr.cell? ⟨g, k * 6 + 2, none⟩ = some (.int .u64 (lm x2 0)) := by rw [World.ownsRow.cellAt hrr _ (by omega)]; exact e3
      have k4 : wr.cell? ⟨g, k * 6 + 3, none⟩ = some (.int .u64 (lm x2 1)) := by rw [World.ownsRow.cellAt hrr _ (by omega)]; exact e4
      have k5 : wr.cell? ⟨g, k * 6 + 4, none⟩ = some (.int .u64 (lm x2 2)) := by rw [World.ownsRow.cellAt hrr _ (by omega)]; exact e5
      have k6 : wr.cell? ⟨g, k * 6 + 5, none⟩ = some (.int .u64 (lm x2 3)) := by rw [World.ownsRow.cellAt hrr _ (by omega)]; exact e6
      have hJ1 : J (L.take k) (wr.alloc (.cells #[.int .u8 x1, .int .u8 y1, .int .u64 (lm x2 0), .int .u64 (lm x2 1), .int .u64 (lm x2 2), .int .u64 (lm x2 3)] 128)) := (fun s X Y r a b c => HJ.out s X Y r a b c) _ _ _ none hJs (World.grownBy_alloc wr _ none) (fun r e => by cases e)
      obtain ⟨fn, tmps, assign, body, hy, hR⟩ := HY.out _ ((x1, y1), ⟨x2, hx2⟩) _ (List.mem_of_getElem? hx) hJ1 (by rw [List.length_take]; omega)
      dsimp only at hy
      have HTK := hide htk
      have HK := hide hK
      clear hJs hJ1 e1 e2 e3 e4 e5 e6 hx htk hrr hK
      gi_wp2
      refine hR.mono ?_
      rintro e W3 (⟨rfl, hJ3, hk3⟩ | ⟨rfl, hJx3⟩)
      · gi_wp2
        have hka : KIv lo hi wr (wr.alloc (.cells #[.int .u8 x1, .int .u8 y1, .int .u64 (lm x2 0), .int .u64 (lm x2 1), .int .u64 (lm x2 2), .int .u64 (lm x2 3)] 128)) := KIv.alloc HK.out hh _
        go_roundw
        case rel => exact ⟨k + 1, by omega, by simp, by rw [HTK.out]; exact hJ3, (HK.out.t hka).t hk3⟩
        case measure => simp [intOf]; omega
      · gi_wp2
        refine bodyPost_ret (results_none rfl _ _ _) rfl ?_
        exact ⟨⟨_, rfl⟩, .inr ⟨L.take (k + 1), List.take_prefix _ _, by rw [HTK.out]; exact hJx3⟩⟩
    · obtain rfl : k = L.length := by omega
      have HJS := hide hJs
      clear hJs hK
      gi_wp2
      go_end0
      exact ⟨⟨_, rfl⟩, .inl ⟨L, rfl, by have := HJS.out; rwa [List.take_length] at this⟩⟩
/-- An entry of a row. -/
abbrev Of (L : Kvs) := {x : Kk × Nm // x ∈ L}
/-- It goes through all entries, in order, or stops where it is told. -/
theorem iter_stops (F : Fence) (n : Nat) (hf : F.fn 72) (hro : F.round = none) (hn : 1 ≤ n) {lo hi gb : Nat} {L : Kvs} (hlen : L.length ≤ 100000) {w : World} (hI : It w lo hi gb L) (hh : hi ≤ w.heap.size) :
    SeqStopsK F n Try.prog 72 #[.pointer (some ⟨gb, 0, none⟩)] (fun x : Of L => #[Value.agg #[.int .u8 x.1.1.1, .int .u8 x.1.1.2], Value.agg #[.int .u64 (lm x.1.2.1 0), .int .u64 (lm x.1.2.1 1), .int .u64 (lm x.1.2.1 2), .int .u64 (lm x.1.2.1 3)]]) (KIv lo hi) (fun ys => ys.map (·.1) = L) (fun pre => pre.map (·.1) <+: L) L.length w := fun l J Jx W hW hJ _ hY h0 => by
  refine (iter_in F n hf hro hn l lo hi gb L hlen (fun ys W => ∃ zs : List (Of L), zs.map (·.1) = ys ∧ J zs W) (fun ys W => ∃ zs : List (Of L), zs.map (·.1) = ys ∧ Jx zs W) W (fun s X Y row ⟨zs, h1, h2⟩ hg hr => ⟨zs, h1, hJ zs X Y row h2 hg hr⟩) ?_ (hI.kept (KIv.below hW hh)) (Nat.le_trans hh hW.size) ⟨[], rfl, h0⟩).mono ?_
  · rintro pre x W1 hx ⟨zs, rfl, hz⟩ hl
    refine (hY zs ⟨x, hx⟩ W1 hz (by rw [List.length_map] at hl; exact hl)).mono ?_
    rintro e W' (⟨rfl, q1, q2⟩ | ⟨rfl, q1⟩)
    · exact .inl ⟨rfl, ⟨zs ++ [⟨x, hx⟩], by simp, q1⟩, q2⟩
    · exact .inr ⟨rfl, zs ++ [⟨x, hx⟩], by simp, q1⟩
  · rintro e W' ⟨hv, h⟩
    refine ⟨hv, ?_⟩
    rcases h with ⟨ys, rfl, zs, h1, h2⟩ | ⟨pre, hp, zs, rfl, h2⟩
    · exact .inl ⟨zs, h1, h2⟩
    · exact .inr ⟨zs, hp, h2⟩
end Go.Proofs.Ytncnilplmklccaa
