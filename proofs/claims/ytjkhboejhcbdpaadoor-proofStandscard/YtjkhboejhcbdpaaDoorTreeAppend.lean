/- The contract of a tree's Root over this translation. Contracts of slices.Delete and slices.Clone, at rows of sums, over this translation. The contract of a tree's Append over this translation (written by gen-treeappend.py). -/
import Derived.Test.YtjkhboejhcbdpaaDoorProofMake
import Derived.Test.YtjkhboejhcbdpaaDoorTreeLeaf
import Derived.Deep.RegionLaw
import Derived.Lib.SliceRun
import Derived.ScopeJumps
import Derived.Deep.LoopGhost
/- The contract of a tree's Root over this translation. -/
namespace Go.Proofs.YtjkhboejhcbdpaaDoor
open Go.RowKit Go.Lib
attribute [local go_sem] setCell_drewN alloc_drewN

end Go.Proofs.YtjkhboejhcbdpaaDoor

/- Contracts of slices.Delete and slices.Clone, at rows of sums, over this translation. -/
namespace Go.Proofs.YtjkhboejhcbdpaaDoor
open Go.RowKit Go.Lib
attribute [local go_sem] setCell_drewN alloc_drewN

/-- 'clear' of sums at a row's end: the row, cut to what is ahead. -/
theorem run_clear_hs (w : World) (ty : TypeId) {g cap : Nat} {L : List Hs} (h : HR w (.slice (some ⟨g, 0, none⟩) L.length cap) L) (i : Nat) (hi : i < L.length) :
    ∃ w', (∀ c, (Builtin.clear_ #[22] ty #[.slice (some ⟨g, i * 32, none⟩) (L.length - i) c]).run Tryd.prog w = .ok (.tuple #[]) w') ∧ HR w' (.slice (some ⟨g, 0, none⟩) i cap) (L.take i) ∧ w.grownBy w' (some g) := by
  obtain ⟨i0, z0, hi0, hz0, hzs, hz1, hz2⟩ := info_hs
  obtain ⟨m, hm⟩ : ∃ m, L.length - i = m + 1 := ⟨L.length - i - 1, by omega⟩
  have hzv : (zeroValue 28).run Tryd.prog w = .ok z0 w := by simp [zeroValue, typeInfo, hi0, hz0]
  rcases h.2 with ⟨e, _⟩ | ⟨g', cap', cur, e, hb, hg, hcap, hmx, hs, ht⟩
  · simp at e
  simp only [Value.slice.injEq, Option.some.injEq, Addr.mk.injEq, and_true, true_and] at e
  obtain ⟨rfl, rfl⟩ := e
  have h1c : ∀ u ∈ (Builtin.zeroCells z0.cells (m + 1)).toList, u.oneCell' = true := by
    have hzz : z0.cells.all (·.oneCell') = true := by
      have h1 : (Tryd.prog.info? 28).map (fun i => i.zero.map (fun z => z.cells.all (·.oneCell'))) = some (some true) := by kernel_rfl
      rw [hi0] at h1
      simpa [hz0] using h1
    intro u hu
    simp only [Builtin.zeroCells, Array.toList_map, List.mem_map] at hu
    obtain ⟨q, _, rfl⟩ := hu
    rw [Array.all_eq_true] at hzz
    have hq : q % z0.cells.size < z0.cells.size := Nat.mod_lt _ (by rw [hzs]; omega)
    rw [getElem!_pos z0.cells _ hq]
    exact hzz _ hq
  have hlen : (Builtin.zeroCells z0.cells (m + 1)).toList.length = (m + 1) * 32 := by rw [Array.length_toList, size_zeroCells, hzs]
  obtain ⟨zs, hzsd⟩ : ∃ zs, (Builtin.zeroCells z0.cells (m + 1)).toList = zs := ⟨_, rfl⟩
  rw [hzsd] at h1c hlen
  have hst := run_storeCells_at Tryd.prog g (i * 32) 28 zs 0 cur w hg (by rw [hlen, hs]; omega) h1c
  refine ⟨w.setRow g (cur.toList.take (i * 32 + 0) ++ zs ++ cur.toList.drop (i * 32 + 0 + zs.length)).toArray, fun c => ?_, ?_, ?_⟩
  · rw [hm]
    simp [Builtin.clear_, run_underlying Tryd.underlying22, hzv, hzsd, hst]
  · have hl : (L.take i).length = i := by rw [List.length_take]; omega
    refine ⟨hC_length _, .inr ⟨g, cap, _, by rw [hl], hb, setRow_heap w g cur _ _ _ hg, by omega, hmx, ?_, ?_⟩⟩
    · simp only [List.size_toArray, List.length_append, List.length_take, List.length_drop, Array.length_toList, hlen]
      omega
    · rw [hC_take, ← ht, hl, List.take_take, Nat.min_eq_left (Nat.mul_le_mul_right _ (by omega))]
      simp only [Nat.add_zero, List.append_assoc]
      rw [List.take_append_of_le_length (by rw [List.length_take, Array.length_toList, hs]; omega), List.take_take, Nat.min_self]
  · exact ⟨rfl, rfl, rfl, by simp, fun k _ hk => setRow_other w g k _ (fun e => hk (by simp [e]))⟩
set_option maxRecDepth 100000 in
/-- Sums are appended to a row of the call's own: it stays where it is, or comes anew. -/
theorem run_app_hs (w : World) (ty : TypeId) {v : Value} {L L2 : List Hs} {ao : Option Addr} {c : Nat} (hown : HR w v L) (hsrc : Hl w ao L2) (hao : ao = none → c = 0) (hlen : L.length + L2.length ≤ 2000000) :
    ∃ v' w', (Builtin.append_ #[22, 22] ty #[v, .slice ao L2.length c]).run Tryd.prog w = .ok v' w' ∧ HR w' v' (L ++ L2) ∧ w.grownBy w' v.ownBlock ∧ (∀ b, v'.ownBlock = some b → v.ownBlock = some b ∨ b = w.heap.size) := by
  obtain ⟨i0, z0, hi, hz0, hzs, hz1, hz2⟩ := info_hs
  cases ao with
  | none =>
    obtain rfl := hao rfl
    obtain rfl : L2 = [] := by
      rcases hsrc with h | ⟨b, off, h, _⟩
      · exact h
      · simp at h
    exact ⟨v, w, run_append_owned_none (P := Tryd.prog) w 0 22 ty 28 i0 32 Tryd.underlying22 hi v L.length (hC L) hown, by simpa using hown, ⟨rfl, rfl, rfl, Nat.le_refl _, fun _ _ _ => rfl⟩, fun b hb => .inl hb⟩
  | some a =>
    have hnews : ∀ j u, (hC L2)[j]? = some u → w.cell? (a.add j) = some u := by
      intro j u hu
      have hj : j < L2.length * 32 := by have := (List.getElem?_eq_some_iff.1 hu).1; rwa [hC_length] at this
      rcases hsrc with rfl | ⟨b, off, e, hl, hc⟩
      · simp at hj
      · simp only [Option.some.injEq] at e
        subst e
        obtain ⟨x, hx⟩ : ∃ x, L2[j / 32]? = some x := ⟨L2[j / 32], by rw [List.getElem?_eq_getElem (by omega)]⟩
        obtain ⟨u', hu'⟩ : ∃ u', (rowV 32 x)[j % 32]? = some u' := ⟨(rowV 32 x)[j % 32]'(by rw [rowV_length]; omega), by rw [List.getElem?_eq_getElem (by rw [rowV_length]; omega)]⟩
        have h1 := hC_get L2 (j / 32) x hx (j % 32) u' hu'
        rw [show j / 32 * 32 + j % 32 = j by omega, hu] at h1
        injection h1 with h1
        subst h1
        have h2 := hc (j / 32) x hx (j % 32) u hu'
        rw [Addr.add_mid]
        rwa [show off + j / 32 * 32 + j % 32 = off + j by omega] at h2
    obtain ⟨v', w', hrun, r1, r2, _, r3⟩ := run_append_own_at (P := Tryd.prog) w 0 22 ty 28 i0 z0 32 32 Tryd.underlying22 hi hz0 hz1 hz2 hzs (by decide) v L.length (hC L) hown a L2.length c (hC L2) (hC_length _) hnews (hC_one L2) (by unfold maxLen; omega) (by omega) (Nat.zero_le _)
    refine ⟨v', w', hrun, ?_, r2, fun b hb => ?_⟩
    · unfold HR
      rw [List.length_append, hC_append]
      exact r1
    · rcases r3 with e | e
      · exact .inl (by rw [← e]; exact hb)
      · rw [e] at hb; simp at hb; exact .inr hb.symm
/-- The same as one step of a region. -/
theorem step_app_hs {ops : Array Oper} {o : Oper} {a : Act} {w : World} {K : Act → World → Prop} {Q : Exit → Act → World → Prop} {E : Prop} (hgd : o.guard = none) (s x : Operand)
    (ho : o.op = .call { callee := .builtin .append, args := #[s, x], argTypes := #[22, 22] }) (v : Value) (L L2 : List Hs) (ao : Option Addr) (n c : Nat) (hs : a.eval s = v) (hx : a.eval x = .slice ao n c) (hn : n = L2.length)
    (hown : HR w v L) (hsrc : Hl w ao L2) (hao : ao = none → c = 0) (hlen : L.length + L2.length ≤ 2000000)
    (h : ∀ v' w', HR w' v' (L ++ L2) → w.grownBy w' v.ownBlock → (∀ b, v'.ownBlock = some b → v.ownBlock = some b ∨ b = w.heap.size) → K (a.put o.dst v') w') :
    if Region.wanted o (yielded ops a.tmps) = true then Oper.wp Tryd.prog o a w K Q else E := by
  subst hn
  have hw : Region.wanted o (yielded ops a.tmps) = true := by simp [Region.wanted, hgd]
  rw [if_pos hw]
  obtain ⟨v', w', hrun, r1, r2, r3⟩ := run_app_hs w o.type hown hsrc hao hlen
  unfold Oper.wp
  simp [execOp, ho, resolve, invoke, builtin, hs, hx, hrun, Result.andThen]
  exact h _ _ r1 r2 r3
/-- The same in a plain region. -/
theorem wpList_app_hs {ops : Array Oper} {rest : List Oper} {o : Oper} {a : Act} {w : World} {Q : Exit → Act → World → Prop} (hgd : o.guard = none) (s x : Operand)
    (ho : o.op = .call { callee := .builtin .append, args := #[s, x], argTypes := #[22, 22] }) (v : Value) (L L2 : List Hs) (ao : Option Addr) (n c : Nat) (hs : a.eval s = v) (hx : a.eval x = .slice ao n c) (hn : n = L2.length)
    (hown : HR w v L) (hsrc : Hl w ao L2) (hao : ao = none → c = 0) (hlen : L.length + L2.length ≤ 2000000)
    (h : ∀ v' w', HR w' v' (L ++ L2) → w.grownBy w' v.ownBlock → (∀ b, v'.ownBlock = some b → v.ownBlock = some b ∨ b = w.heap.size) → wpList Tryd.prog ops Q rest (a.put o.dst v') w') :
    wpList Tryd.prog ops Q (o :: rest) a w := by
  subst hn
  obtain ⟨v', w', hrun, r1, r2, r3⟩ := run_app_hs w o.type hown hsrc hao hlen
  refine wpList_plain hgd fun _ hK => ?_
  unfold Oper.wp
  simp [execOp, ho, resolve, invoke, builtin, hs, hx, hrun, Result.andThen]
  exact hK _ _ (h v' w' r1 r2 r3)
/-- An empty literal's row. -/
theorem HR.empty (w : World) {g : Nat} (e : w.heap.size = g) : HR (w.alloc (.cells #[] 28)) (.slice (some ⟨g, 0, none⟩) 0 0) [] := by
  subst e
  exact World.ownsRow_made w #[] 0 (Nat.zero_le _) (by simp [maxLen]) (by simp)
end Go.Proofs.YtjkhboejhcbdpaaDoor

/- The contract of a tree's Append over this translation (written by gen-treeappend.py). -/
namespace Go.Proofs.YtjkhboejhcbdpaaDoor
open Go.RowKit Go.Lib
attribute [local go_sem] setCell_drewN alloc_drewN

/-- The rows below a level have the leaf, the others not yet. -/
def mix (L : List Hs) (x : Hs) (l : Nat) : Nat → List Hs := fun k => lv (if k < l then L ++ [x] else L) k
theorem mix_at (L : List Hs) (x : Hs) (l : Nat) : mix L x l l = lv L l := by unfold mix; rw [if_neg (Nat.lt_irrefl _)]
theorem mix_past (L : List Hs) (x : Hs) (l : Nat) : mix L x (l + 1) l = lv (L ++ [x]) l := by unfold mix; rw [if_pos (by omega)]
theorem mix_zero (L : List Hs) (x : Hs) (k : Nat) : mix L x 0 k = lv L k := by unfold mix; rw [if_neg (by omega)]
theorem mix_next {L : List Hs} {x : Hs} {l : Nat} (h : (L.length + 1) % 2 ^ l = 0) : upd (mix L x l) l (lv L l ++ [tn (L ++ [x]) l (L.length / 2 ^ l)]) = mix L x (l + 1) := by
  funext k
  unfold upd
  by_cases e : k = l
  · subst e
    rw [if_pos rfl, mix_past, lv_snoc L x k h]
  · rw [if_neg e]
    unfold mix
    by_cases e2 : k < l
    · rw [if_pos e2, if_pos (by omega)]
    · rw [if_neg e2, if_neg (by omega)]
theorem full_is {n l : Nat} (h : (n + 1) % 2 ^ l = 0) : n + 1 = (n / 2 ^ l + 1) * 2 ^ l ∧ (n + 1) / 2 ^ l = n / 2 ^ l + 1 := by
  have hp : 0 < 2 ^ l := Nat.two_pow_pos l
  have hd : (n + 1) / 2 ^ l = n / 2 ^ l + 1 := by rw [Nat.succ_div, if_pos (Nat.dvd_of_mod_eq_zero h)]
  refine ⟨?_, hd⟩
  rw [← hd, Nat.div_mul_cancel (Nat.dvd_of_mod_eq_zero h)]
theorem up_le {n l c d : Nat} (h : n + 1 = (c + 1) * 2 ^ l) (hc : 1 ≤ c) (hd : n + 1 ≤ 2 ^ d) : l + 1 ≤ d := by
  apply Decidable.byContradiction
  intro hn
  have h1 : 2 ^ d ≤ 2 ^ l := Nat.pow_le_pow_right (by omega) (by omega)
  have hp : 0 < 2 ^ l := Nat.two_pow_pos l
  have h2 : 2 * 2 ^ l ≤ (c + 1) * 2 ^ l := Nat.mul_le_mul_right _ (by omega)
  omega
theorem up_full {n l c : Nat} (h : n + 1 = (c + 1) * 2 ^ l) (_hd : (n + 1) / 2 ^ l = c + 1) (hc : (c + 1) % 2 = 0) : (n + 1) % 2 ^ (l + 1) = 0 := by
  obtain ⟨q, hq⟩ : ∃ q, c + 1 = 2 * q := ⟨(c + 1) / 2, by omega⟩
  rw [h, hq, Nat.pow_succ, Nat.mul_comm 2 q, Nat.mul_assoc, Nat.mul_comm 2]
  exact Nat.mul_mod_left _ _
theorem mix_done {L : List Hs} {x : Hs} {l c : Nat} (hd : (L.length + 1) / 2 ^ l = c) (hc : c % 2 = 1) (k : Nat) : mix L x (l + 1) k = lv (L ++ [x]) k := by
  unfold mix
  by_cases e : k < l + 1
  · rw [if_pos e]
  · rw [if_neg e]
    refine (lv_same L x k fun h0 => ?_).symm
    obtain ⟨j, rfl⟩ : ∃ j, k = l + 1 + j := ⟨k - (l + 1), by omega⟩
    obtain ⟨q, hq⟩ := Nat.dvd_of_mod_eq_zero h0
    have hp : 0 < 2 ^ l := Nat.two_pow_pos l
    have e1 : 2 ^ (l + 1 + j) * q = 2 ^ l * (2 * (2 ^ j * q)) := by
      rw [Nat.pow_add, Nat.pow_succ]; simp only [Nat.mul_assoc]
    rw [hq, e1, Nat.mul_div_cancel_left _ hp] at hd
    omega
theorem setCells_os (b : Nat) : ∀ (vs : List Value) (o : Nat) (w : World), (w.setCells b o vs).os = w.os ∧ (w.setCells b o vs).tape = w.tape ∧ (w.setCells b o vs).output = w.output
  | [], _, _ => ⟨rfl, rfl, rfl⟩
  | v :: r, o, w => by rw [World.setCells]; exact setCells_os b r _ _
theorem Mv.putA {S S' : Nat → Prop} {a w : World} (h : Mv S S' a w) {b : Nat} (hb : a.heap.size ≤ b) (o : Nat) (vs : List Value) : Mv S S' a (w.setCells b o vs) :=
  ⟨(setCells_os b vs o w).1.trans h.os, (setCells_os b vs o w).2.1.trans h.tape, (setCells_os b vs o w).2.2.trans h.output, by rw [setCells_size]; exact h.size, fun k hk hs => by rw [setCells_block _ _ _ _ _ (by omega)]; exact h.block k hk hs, h.own⟩
/-- A scope with one label to which the run jumps back, and into which it falls from ahead. -/
theorem wp_scope_label {P : Program} {a : Act} {w : World} {Q : Exit → Act → World → Prop} {c R : Code} (l : Nat) (J : Act → World → Prop) (μ : Act → World → Nat) (hf : findLabel c l = some (.seq .skip R))
    (core : ∀ a w, J a w → R.wp P (Exit.jump l (fun a' w' => J a' w' ∧ μ a' w' < μ a w) Q) a w)
    (first : (∀ a w, J a w → R.wp P (Exit.jump l J Q) a w) → c.wp P (Exit.jump l J Q) a w) : (Code.scope c).wp P Q a w := by
  refine wp_scope_jumps l J μ hf (first fun a w hJ => Code.wp_mono (fun e a' w' q => ?_) (core a w hJ)) fun a w hJ => wp_seq (wp_skip (core a w hJ))
  cases e <;> first | exact q | exact ⟨q.1, q.2.1⟩
/-- A literal of one sum. -/
theorem one_hs (w : World) (H : Hs) {g : Nat} (e : w.heap.size = g) : Hl (w.alloc (.cells (rowV 32 H).toArray 28)) (some ⟨g, 0, none⟩) [H] := by
  subst e
  refine .inr ⟨_, _, rfl, by simp, fun j x hx i v hv => ?_⟩
  obtain ⟨rfl, rfl⟩ : j = 0 ∧ H = x := by
    have hj : j = 0 := by have := (List.getElem?_eq_some_iff.1 hx).1; simp at this; exact this
    subst hj
    simpa using hx
  rw [World.cell?_alloc_at _ _ _ _ rfl]
  simpa using hv
theorem fill_hs (y : Hs) (z : Array Value) (hz : z.size = 32) : Instr.fill (fun i => some (i * 32, 32)) z [(0, .agg (rowV 32 y).toArray)] = some (rowV 32 y).toArray := by
  have h := Great.fill_whole (s := 32) (by omega) [.agg (rowV 32 y).toArray] z (fun v hv => by simp at hv; subst hv; show (rowV 32 y).toArray.size = 32; rw [List.size_toArray, rowV_length]) (by rw [hz]; rfl)
  have e : (([.agg (rowV 32 y).toArray] : List Value).flatMap fun v => v.cells.toList) = rowV 32 y := by simp [Value.cells]
  rw [e] at h
  exact h
theorem wp_build_hs {o : Oper} {a : Act} {w : World} {K : Act → World → Prop} {Q : Exit → Act → World → Prop} (s : Operand) (ho : o.op = .buildSlice 22 1 #[(0, s)]) (y : Hs) (hs : a.eval s = .agg (rowV 32 y).toArray)
    (h : K (a.put o.dst (.slice (some ⟨w.heap.size, 0, none⟩) 1 1)) (w.alloc (.cells (rowV 32 y).toArray 28))) : o.wp Tryd.prog a w K Q := by
  obtain ⟨i0, z0, hi, hz0, hzs, hz1, hz2⟩ := info_hs
  refine wp_buildSlice 22 28 1 #[(0, s)] ho (rowV 32 y).toArray i0 z0 Tryd.underlying22 hi hz0 (by rw [hz1]; omega) (by rw [hz1]; omega) ?_ h
  rw [hz1]
  simp only [List.map_toArray, List.map_cons, List.map_nil, hs]
  exact fill_hs y _ (by simp)
/-- What stands at a level. -/
structure AD (w0 w : World) (g d : Nat) (S : Nat → Prop) (L : List Hs) (x : Hs) (l : Nat) : Prop where
  ld : l ≤ d
  full : (L.length + 1) % 2 ^ l = 0
  h : BRow w w0.heap.size 32 (tn (L ++ [x]) l (L.length / 2 ^ l))
  box : ∃ S', Rw w g S' d (mix L x l) ∧ Mv S S' w0 w ∧ ¬ S' w0.heap.size
/-- What stands at each jump. -/
def AJ (w : World) (g d : Nat) (S : Nat → Prop) (L : List Hs) (x : Hs) (a : Act) (w' : World) : Prop := ∃ (l : Nat) (u : Nat → Value), a = { tmps := #[.pointer (some ⟨g, 0, none⟩), .agg (rowV 32 x).toArray, u 2, .pointer (some ⟨w.heap.size, 0, none⟩), .int .u64 0, .int .i64 0, .int .u64 L.length, .int .i64 l, u 8, u 9, u 10, u 11, u 12, u 13, u 14, u 15, u 16, u 17, u 18, u 19, u 20, u 21, u 22, u 23, u 24, u 25, u 26, u 27, u 28, u 29, u 30, u 31, u 32, u 33, u 34, u 35, u 36, u 37, u 38, u 39, u 40, u 41, u 42, u 43, u 44, u 45, u 46, u 47, u 48, u 49, u 50, u 51, u 52, u 53, u 54, u 55], defers := [] } ∧ AD w w' g d S L x l
theorem AJ.mk {w : World} {g d : Nat} {S : Nat → Prop} {L : List Hs} {x : Hs} {w' : World} {m : Int} {l : Nat} {u2 u8 u9 u10 u11 u12 u13 u14 u15 u16 u17 u18 u19 u20 u21 u22 u23 u24 u25 u26 u27 u28 u29 u30 u31 u32 u33 u34 u35 u36 u37 u38 u39 u40 u41 u42 u43 u44 u45 u46 u47 u48 u49 u50 u51 u52 u53 u54 u55 : Value} (hm : m = (l : Int)) (h : AD w w' g d S L x l) : AJ w g d S L x { tmps := #[.pointer (some ⟨g, 0, none⟩), .agg (rowV 32 x).toArray, u2, .pointer (some ⟨w.heap.size, 0, none⟩), .int .u64 0, .int .i64 0, .int .u64 L.length, .int .i64 m, u8, u9, u10, u11, u12, u13, u14, u15, u16, u17, u18, u19, u20, u21, u22, u23, u24, u25, u26, u27, u28, u29, u30, u31, u32, u33, u34, u35, u36, u37, u38, u39, u40, u41, u42, u43, u44, u45, u46, u47, u48, u49, u50, u51, u52, u53, u54, u55], defers := [] } w' := by
  subst hm
  exact ⟨l, fun k => (#[undef, undef, u2, undef, undef, undef, undef, undef, u8, u9, u10, u11, u12, u13, u14, u15, u16, u17, u18, u19, u20, u21, u22, u23, u24, u25, u26, u27, u28, u29, u30, u31, u32, u33, u34, u35, u36, u37, u38, u39, u40, u41, u42, u43, u44, u45, u46, u47, u48, u49, u50, u51, u52, u53, u54, u55] : Array Value).getD k undef, rfl, h⟩
theorem room0_any {w : World} {g d : Nat} {S : Nat → Prop} {M : Nat → List Hs} (h : Rw w g S d M) (hd : d ≤ 32) :
    Calls Tryd.prog 26 #[.pointer (some ⟨g, 0, none⟩), .int .i64 0] w fun e w' => e = .returned (.int .u64 ((2 ^ d : Nat) : Int)) ∧ w' = w := room_any h hd 0 (Nat.zero_le _)
set_option maxRecDepth 100000 in
set_option maxHeartbeats 4000000 in
theorem append_nil {w : World} (x : Hs) :
    Calls Tryd.prog 21 #[.pointer none, .agg (rowV 32 x).toArray] w fun e w' => e = .returned (.tuple #[.int .u64 0, .int .i64 1]) ∧ Below w.heap.size w w' := by
  have B := hide (bAl (o := .cells (rowV 32 x).toArray 28) (bMe w))
  go_enter Tryd.func21, Tryd.ntmps21
  go_wp2_with fail
  refine wp_scope_label 0 (fun _ _ => False) (fun _ _ => 0) rfl (fun _ _ h => h.elim) (fun _ => ?_)
  go_wp2
  simp only [Exit.jump]
  go_ret2
  exact ⟨rfl, B.out⟩
theorem append_full {w : World} {g d : Nat} {S : Nat → Prop} {L : List Hs} (h : Tr w g S d L) (x : Hs) (hl : L.length = 2 ^ d) :
    Calls Tryd.prog 21 #[.pointer (some ⟨g, 0, none⟩), .agg (rowV 32 x).toArray] w fun e w' => e = .returned (.tuple #[.int .u64 0, .int .i64 7]) ∧ Below w.heap.size w w' := by
  have B := hide (bAl (o := .cells (rowV 32 x).toArray 28) (bMe w))
  have H := hide (h.below B.out)
  have HD := hide h.dep
  have hfew := h.few
  have hp : ((2 ^ d : Nat) : Int) = (L.length : Int) := by rw [hl]
  clear h
  go_enter Tryd.func21, Tryd.ntmps21
  go_wp2_with fail
  refine wp_scope_label 0 (fun _ _ => False) (fun _ _ => 0) rfl (fun _ _ h => h.elim) (fun _ => ?_)
  go_wp2_with (first
    | (go_at_call 18; refine (len_any H.out.box (by rw [lv_zero]; omega)).mono ?_; rintro e w' ⟨rfl, rfl⟩; rw [lv_zero])
    | (go_at_call 26; refine (room0_any H.out.box HD.out).mono ?_; rintro e w' ⟨rfl, rfl⟩; rw [hp]))
  simp only [Exit.jump]
  go_ret2
  exact ⟨rfl, B.out⟩
set_option maxRecDepth 100000 in
set_option maxHeartbeats 8000000 in
theorem append_any {w0 w : World} {g d : Nat} {S : Nat → Prop} {L : List Hs} (h : Tr w g S d L) (x : Hs) (hx : Hok x) (hl : L.length < 2 ^ d) (hf : L.length < 1000) (ht : Tab w0 1) (hb0 : Below w0.heap.size w0 w) (hlow : ∀ k, S k → w0.heap.size ≤ k) :
    Calls Tryd.prog 21 #[.pointer (some ⟨g, 0, none⟩), .agg (rowV 32 x).toArray] w fun e w' => e = .returned (.tuple #[.int .u64 L.length, .int .i64 0]) ∧ ∃ S', Tr w' g S' d (L ++ [x]) ∧ Mv S S' w w' := by
  have HT := hide ht
  have HB0 := hide hb0
  have HLOWS := hide hlow
  have HD := hide h.dep
  have HLN : Hid (L.length + 1 ≤ 2 ^ d) := hl
  have HFEW : Hid (L.length + 1 ≤ 1000) := hf
  have hd := h.dep
  have HOK : Hid (Hoks (L ++ [x])) := fun f hf => by
    rcases List.mem_append.1 hf with hf | hf
    · exact h.ok f hf
    · simp at hf; subst hf; exact hx
  have HNS : Hid (¬ S w.heap.size) := fun e => Nat.lt_irrefl _ (h.box.low _ e)
  have B : Hid (Below w.heap.size w (w.alloc (.cells (rowV 32 x).toArray 28))) := bAl (bMe w)
  have BX := hide (BRow.box w 32 x 28 (g := w.heap.size) rfl)
  have H0 := hide (h.below B.out)
  clear h ht hx hb0 hlow
  go_enter Tryd.func21, Tryd.ntmps21
  go_wp2_with fail
  refine wp_scope_label 0 (AJ w g d S L x) (fun a' _ => (33 - intOf (a'.tmps.getD 7 undef)).toNat) rfl ?_ (fun hcore => ?_)
  · rintro a' wr ⟨l, u, rfl, hdd⟩
    have D := hide hdd
    have HWL : Hid (w.heap.size < wr.heap.size) := D.out.h.lt
    clear hdd BX B H0
    have hl32 : (l : Int) ≤ 32 := by have := D.out.ld; have := HD.out; omega
    have hl33 : (l : Int) < 33 := by omega
    have HL33 : Hid (l < 33) := by show _ < _; omega
    obtain ⟨S1, hb1, hm1, hn1⟩ := D.out.box
    have HB := hide hb1; have HM := hide hm1; have HNG := hide hn1
    clear hb1 hm1 hn1
    have HFULL := hide D.out.full
    have HLD := hide D.out.ld
    obtain ⟨H, hH⟩ : ∃ H, tn (L ++ [x]) l (L.length / 2 ^ l) = H := ⟨_, rfl⟩
    have XD := D.out.h
    rw [hH] at XD
    have X : Hid (BRow wr.drew w.heap.size 32 H) := XD.after (bMe wr).drew rfl
    have HH : Hid (Hok H) := by rw [← hH]; exact tn_ok HOK.out l _
    have HSN : Hid (upd (mix L x l) l (lv L l ++ [H]) = mix L x (l + 1)) := by rw [← hH]; exact mix_next HFULL.out
    have HLV : Hid (lv (L ++ [x]) l = lv L l ++ [H]) := by rw [← hH]; exact lv_snoc L x l HFULL.out
    have HHD := hide hH
    clear hH XD
    obtain ⟨v, hcw, hv, hsv⟩ := HB.out.row HL33.out
    have HCW := hide hcw; have HSV := hide hsv
    rw [mix_at] at hv
    have HV := hide hv
    obtain ⟨ao, cap, rfl, -, -, -, -⟩ := hv.form
    have HLEN : Hid ((lv L l).length ≤ 1000) := by show _ ≤ _; rw [lv_length]; have := Nat.div_le_self L.length (2 ^ l); omega
    have HMM := hide (rfl : (lv L l).length = (lv L l).length)
    have HCC : Hid (wr.cell? ⟨g, 1 + l, none⟩ = some (.slice ao (lv L l).length cap)) := by rw [Nat.add_comm] at hcw; exact hcw
    clear hcw hv hsv HMM D
    go_wp2_with fail
    refine wp_region_held_drew (S := fun w' => BRow w' w.heap.size 32 H) (by kernel_rfl) X.out (fun _ => ?_)
    refine tk0 (v := .pointer (some ⟨g, 0, none⟩)) (by kernel_rfl) (by kernel_rfl) (by kernel_rfl) (fun _ _ _ h => h) X.out (Or.inl ⟨by rfl, fun w hw => by go_simp; try (with_reducible rfl)⟩) ?_
    simp only [Act.put, List.setIfInBounds_toArray, List.set_cons_zero, List.set_cons_succ]
    refine tk1 (v := .int .i64 (l : Int)) (by kernel_rfl) (by kernel_rfl) (by kernel_rfl) (fun _ _ _ h => h) X.out (Or.inl ⟨by rfl, fun w hw => by go_simp; try (with_reducible rfl)⟩) ?_
    simp only [Act.put, List.setIfInBounds_toArray, List.set_cons_zero, List.set_cons_succ]
    refine tk2 (v := .pointer (some ⟨g, 0, none⟩)) (by kernel_rfl) (by kernel_rfl) (by kernel_rfl) (fun _ _ _ h => h) X.out (Or.inl ⟨by rfl, fun w hw => by go_simp; try (with_reducible rfl)⟩) ?_
    simp only [Act.put, List.setIfInBounds_toArray, List.set_cons_zero, List.set_cons_succ]
    refine tk3 (v := .int .i64 (l : Int)) (by kernel_rfl) (by kernel_rfl) (by kernel_rfl) (fun _ _ _ h => h) X.out (Or.inl ⟨by rfl, fun w hw => by go_simp; try (with_reducible rfl)⟩) ?_
    simp only [Act.put, List.setIfInBounds_toArray, List.set_cons_zero, List.set_cons_succ]
    refine tk4 (v := .pointer (some ⟨g, 0, none⟩)) (by kernel_rfl) (by kernel_rfl) (by kernel_rfl) (fun _ _ _ h => h) X.out (Or.inl ⟨by rfl, fun w hw => by go_simp; try (with_reducible rfl)⟩) ?_
    simp only [Act.put, List.setIfInBounds_toArray, List.set_cons_zero, List.set_cons_succ]
    refine tk5 (v := .pointer (some ⟨g, 1, none⟩)) (by kernel_rfl) (by kernel_rfl) (by kernel_rfl) (fun _ _ _ h => h) X.out (Or.inl ⟨by rfl, fun w hw => by go_simp; try (with_reducible rfl)⟩) ?_
    simp only [Act.put, List.setIfInBounds_toArray, List.set_cons_zero, List.set_cons_succ]
    refine tk6 (v := .pointer (some ⟨g, 1 + l, none⟩)) (by kernel_rfl) (by kernel_rfl) (by kernel_rfl) (fun _ _ _ h => h) X.out (Or.inl ⟨by rfl, fun w hw => by go_simp; try (with_reducible rfl)⟩) ?_
    simp only [Act.put, List.setIfInBounds_toArray, List.set_cons_zero, List.set_cons_succ]
    refine tk11 (v := .pointer (some ⟨g, 0, none⟩)) (by kernel_rfl) (by kernel_rfl) (by kernel_rfl) (fun _ _ _ h => h) X.out (Or.inl ⟨by rfl, fun w hw => by go_simp; try (with_reducible rfl)⟩) ?_
    simp only [Act.put, List.setIfInBounds_toArray, List.set_cons_zero, List.set_cons_succ]
    refine tk12 (v := .pointer (some ⟨g, 1, none⟩)) (by kernel_rfl) (by kernel_rfl) (by kernel_rfl) (fun _ _ _ h => h) X.out (Or.inl ⟨by rfl, fun w hw => by go_simp; try (with_reducible rfl)⟩) ?_
    simp only [Act.put, List.setIfInBounds_toArray, List.set_cons_zero, List.set_cons_succ]
    refine tk8 (by kernel_rfl) (by kernel_rfl) (by kernel_rfl) (fun _ _ _ h => h) X.out (yieldsIf_load_mid (by rfl) _ _ rfl w.heap.size (0) rfl (rowV 32 H) _ (fun _ hw => hw.range) Tryd.underlying28 rfl (info_hash32 _)) ?_
    simp only [Act.put, List.setIfInBounds_toArray, List.set_cons_zero, List.set_cons_succ]
    refine wpAnyH_ready (rs := [7, 9]) (by kernel_rfl) (by simp) ?_
    refine rd7 (fun K hK => ?_) (rd9 (fun K hK => ?_) AllReadyH.nil)
    · skip
      have hcd : wr.drew.cell? ⟨g, 1 + l, none⟩ = some (.slice ao (lv L l).length cap) := HCC.out
      go_simp
      refine hK.out _ _ X.out (fun _ => ?_)
      clear hK K hcd
      refine wpAnyH_ready (rs := [9]) (by kernel_rfl) (by simp) ?_
      refine rd9 (fun K hK => ?_) AllReadyH.nil
      rw [if_pos (by rfl)]
      refine wp_build_hs _ rfl H rfl ?_
      replace X := hide (X.out.past (.cells (rowV 32 H).toArray 28))
      have NB := hide (one_hs wr.drew H (g := wr.drew.heap.size) rfl)
      have BW : Hid (Below wr.heap.size wr (wr.drew.alloc (.cells (rowV 32 H).toArray 28))) := bAl (bMe wr).drew
      refine hK.out _ _ X.out (fun _ => ?_)
      clear hK K
      simp only [Act.put, List.setIfInBounds_toArray, List.set_cons_zero, List.set_cons_succ]
      generalize wr.drew.alloc (.cells (rowV 32 H).toArray 28) = w2 at *
      refine wpAnyH_ready (rs := [10]) (by kernel_rfl) (by simp) ?_
      refine rd10 (fun K hK => ?_) AllReadyH.nil
      refine step_app_hs rfl _ _ rfl (.slice ao (lv L l).length cap) (lv L l) [H] (some ⟨wr.drew.heap.size, 0, none⟩) 1 1 (by simp [Act.eval]) (by simp [Act.eval]) rfl (HV.out.below BW.out) NB.out (fun e => by simp at e) (by have := HLEN.out; simp; omega) ?_
      intro v3 w3 hv3 hg3 hn3
      replace X : Hid (BRow w3 w.heap.size 32 H) := X.out.of hg3.size (hg3.block _ X.out.lt (fun e => HNG.out (HSV.out _ e.symm).1))
      refine hK.out _ _ X.out (fun _ => ?_)
      clear hK K
      simp only [Act.put, List.setIfInBounds_toArray, List.set_cons_zero, List.set_cons_succ]
      obtain ⟨p1, p2, S3, p3, p4⟩ := HB.out.put (k := l) BW.out HL33.out HCW.out hv3 hg3 (fun b hb => (hn3 b hb).imp id (fun e => by rw [e]; exact Nat.le_refl _))
      obtain ⟨ao3, cap3, rfl, -, -, -, -⟩ := hv3.form
      rw [Nat.add_comm l 1] at p1 p2 p3 p4
      have hn2 : (lv L l ++ [H]).length = (lv L l).length + 1 := by rw [List.length_append]; rfl
      rw [HSN.out, hn2] at p3
      rw [hn2] at p4
      have HP3 := hide p3; have HP4 := hide p4
      clear p3 p4 hg3 hn3 hv3 hn2
      refine tk13 (v := .pointer (some ⟨g, 1 + l, none⟩)) (by kernel_rfl) (by kernel_rfl) (by kernel_rfl) (fun _ _ _ h => h) X.out (Or.inl ⟨by rfl, fun w hw => by go_simp; try (with_reducible rfl)⟩) ?_
      simp only [Act.put, List.setIfInBounds_toArray, List.set_cons_zero, List.set_cons_succ]
      refine wpAnyH_ready (rs := [14]) (by kernel_rfl) (by simp) ?_
      refine rd14 (fun K hK => ?_) AllReadyH.nil
      go_simp
      refine hK.out _ _ (X.out.other (fun e => HNG.out (by rw [e]; exact HB.out.mine)) _) (fun _ => ?_)
      replace X := hide (X.out.other (p := ⟨g, 1 + l, none⟩) (fun e => HNG.out (by rw [e]; exact HB.out.mine)) (.slice ao3 ((lv L l).length + 1) cap3))
      clear hK K p1 p2
      refine wpAnyH_done (by kernel_rfl) ?_ _
      try simp only [Act.put]
      generalize w3.setCell ⟨g, 1 + l, none⟩ (.slice ao3 ((lv L l).length + 1) cap3) = w5 at *
      have P5 := HP3
      have M5 := hide (HM.out.trans HP4.out)
      have XB := X
      have HN5 : Hid (¬ S3 w.heap.size) := fun e => by
        rcases M5.out.own _ e with q | q
        · exact HNS.out q
        · rcases HP4.out.own _ e with q | q
          · exact HNG.out q
          · exact absurd (Nat.lt_of_lt_of_le HWL.out q) (Nat.lt_irrefl _)
      clear HP3 HP4 HB HM HNG HSV HV HCW HCC X
      obtain ⟨v5, hc5, hr5, hs5⟩ := P5.out.row HL33.out
      rw [mix_past] at hr5
      obtain ⟨ao5, cap5, rfl, -, -, -, -⟩ := hr5.form
      obtain ⟨c, hc⟩ : ∃ c, (lv (L ++ [x]) l).length = c := ⟨_, rfl⟩
      have hq := full_is HFULL.out
      rw [hc] at hc5
      obtain ⟨q, hqd⟩ : ∃ q, L.length / 2 ^ l = q := ⟨_, rfl⟩
      have hqf : q ≤ 1000 := by rw [← hqd]; have := Nat.div_le_self L.length (2 ^ l); omega
      rw [hqd] at hq
      have hcc : c = q + 1 := by rw [← hc, HLV.out, List.length_append, lv_length, hqd]; rfl
      have hcell : w5.cell? ⟨g, 1 + l, none⟩ = some (.slice ao5 c cap5) := by rw [Nat.add_comm] at hc5; exact hc5
      have hci : (c : Int) ≤ 1001 := by omega
      clear hc5 hr5 hs5
      by_cases hev : c % 2 = 0
      · obtain ⟨e, hce⟩ : ∃ e, c = e + 2 := ⟨c - 2, by omega⟩
        have hevi : (c : Int) % 2 = 0 := by omega
        have hcs : (c : Int) - 2 = (e : Int) := by omega
        have hcw2 : IntKind.i64.wrap ((c : Int) - 2) = (e : Int) := by rw [IntKind.wrap_i64]; omega
        have hei : (e : Int) ≤ 1000 := by omega
        have hwe : IntKind.i64.wrap (e : Int) = (e : Int) := by rw [IntKind.wrap_i64]; omega
        have hrow : (mix L x (l + 1) l)[e]? = some (tn (L ++ [x]) l e) := by rw [mix_past]; exact lv_get _ _ _ (by rw [List.length_append, List.length_singleton, hq.2]; omega)
        obtain ⟨Fl, hFl⟩ : ∃ F, tn (L ++ [x]) l e = F := ⟨_, rfl⟩
        rw [hFl] at hrow
        obtain ⟨blk, off, cap6, hx, hSb, hcp⟩ := P5.out.read HL33.out hrow
        rw [mix_past, hc] at hx
        have HSB := hide hSb
        have HFL : Hid (Hok Fl) := by rw [← hFl]; exact tn_ok HOK.out l _
        have HE1 : Hid (l + 1 ≤ d) := up_le hq.1 (by omega) HLN.out
        have HE2 : Hid ((L.length + 1) % 2 ^ (l + 1) = 0) := up_full hq.1 hq.2 (by omega)
        have HUP : Hid (tn (L ++ [x]) (l + 1) (L.length / 2 ^ (l + 1)) = dnode Fl H) := by
          show _ = _
          have h1 : L.length / 2 ^ l = e + 1 := by rw [hqd]; omega
          have h2 : L.length / 2 ^ (l + 1) = e / 2 := by rw [Nat.pow_succ, ← Nat.div_div_eq_div_mul, h1]; omega
          have h3 := HHD.out
          rw [h1] at h3
          rw [h2, tn_next, show 2 * (e / 2) = e by omega, hFl, h3]
        have hmi5 : (e : Int) < (c : Int) := by omega
        have hcell2 := hx.cell
        rw [hcell] at hcell2
        simp only [Option.some.injEq, Value.slice.injEq, true_and] at hcell2
        obtain ⟨rfl, rfl⟩ := hcell2
        have X : Hid (XR g l blk off c cap5 e Fl w5.drew) := hx.after (bMe w5).drew
        replace XB := hide (XB.out.after (bMe w5).drew rfl)
        replace P5 := hide (P5.out.below (bMe w5).drew)
        replace M5 := hide (M5.out.on (bMe w5).drew)
        have HBW : Hid (Below w0.heap.size w0 w5.drew) := M5.out.below HB0.out HLOWS.out
        have hcell3 : w5.cell? ⟨g, 1 + l, none⟩ = some (.slice (some ⟨blk, off, none⟩) c cap5) := by rw [hcell]
        clear hx hSb hrow hFl hq hc hcc hcell hcp hev hqd hqf hce
        go_wp2_with fail
        refine wp_region_held_drew (S := XR g l blk off c cap5 e Fl) (by kernel_rfl) X.out (fun _ => ?_)
        refine tk0 (v := .pointer (some ⟨g, 0, none⟩)) (by kernel_rfl) (by kernel_rfl) (by kernel_rfl) (fun _ _ _ h => h) X.out (Or.inl ⟨by rfl, fun w hw => by go_simp; try (with_reducible rfl)⟩) ?_
        simp only [Act.put, List.setIfInBounds_toArray, List.set_cons_zero, List.set_cons_succ]
        refine tk1 (v := .int .i64 (l : Int)) (by kernel_rfl) (by kernel_rfl) (by kernel_rfl) (fun _ _ _ h => h) X.out (Or.inl ⟨by rfl, fun w hw => by go_simp; try (with_reducible rfl)⟩) ?_
        simp only [Act.put, List.setIfInBounds_toArray, List.set_cons_zero, List.set_cons_succ]
        refine tk2 (v := .pointer (some ⟨g, 0, none⟩)) (by kernel_rfl) (by kernel_rfl) (by kernel_rfl) (fun _ _ _ h => h) X.out (Or.inl ⟨by rfl, fun w hw => by go_simp; try (with_reducible rfl)⟩) ?_
        simp only [Act.put, List.setIfInBounds_toArray, List.set_cons_zero, List.set_cons_succ]
        refine tk3 (v := .pointer (some ⟨g, 1, none⟩)) (by kernel_rfl) (by kernel_rfl) (by kernel_rfl) (fun _ _ _ h => h) X.out (Or.inl ⟨by rfl, fun w hw => by go_simp; try (with_reducible rfl)⟩) ?_
        simp only [Act.put, List.setIfInBounds_toArray, List.set_cons_zero, List.set_cons_succ]
        refine tk4 (v := .pointer (some ⟨g, 1 + l, none⟩)) (by kernel_rfl) (by kernel_rfl) (by kernel_rfl) (fun _ _ _ h => h) X.out (Or.inl ⟨by rfl, fun w hw => by go_simp; try (with_reducible rfl)⟩) ?_
        simp only [Act.put, List.setIfInBounds_toArray, List.set_cons_zero, List.set_cons_succ]
        refine tk5 (v := .slice (some ⟨blk, off, none⟩) c cap5) (by kernel_rfl) (by kernel_rfl) (by kernel_rfl) (fun _ _ _ h => h) X.out (Or.inl ⟨by rfl, fun w hw => by have c := hw.cell; go_simp; try (with_reducible rfl)⟩) ?_
        simp only [Act.put, List.setIfInBounds_toArray, List.set_cons_zero, List.set_cons_succ]
        refine tk6 (v := .int .i64 (c : Int)) (by kernel_rfl) (by kernel_rfl) (by kernel_rfl) (fun _ _ _ h => h) X.out (Or.inl ⟨by rfl, fun w hw => by go_simp; try (with_reducible rfl)⟩) ?_
        simp only [Act.put, List.setIfInBounds_toArray, List.set_cons_zero, List.set_cons_succ]
        refine tk7 (v := .int .i64 (e : Int)) (by kernel_rfl) (by kernel_rfl) (by kernel_rfl) (fun _ _ _ h => h) X.out (Or.inl ⟨by rfl, fun w hw => by go_simp; try (with_reducible rfl)⟩) ?_
        simp only [Act.put, List.setIfInBounds_toArray, List.set_cons_zero, List.set_cons_succ]
        refine tk8 (v := .pointer (some ⟨blk, off + e * 32, none⟩)) (by kernel_rfl) (by kernel_rfl) (by kernel_rfl) (fun _ _ _ h => h) X.out (Or.inl ⟨by rfl, fun w hw => by go_simp; try (with_reducible rfl)⟩) ?_
        simp only [Act.put, List.setIfInBounds_toArray, List.set_cons_zero, List.set_cons_succ]
        refine tk9 (by kernel_rfl) (by kernel_rfl) (by kernel_rfl) (fun _ _ _ h => h) X.out (yieldsIf_load_mid (by rfl) _ _ rfl blk (off + e * 32) rfl (rowV 32 Fl) _ (fun _ hw => hw.row) Tryd.underlying28 rfl (info_hash32 _)) ?_
        simp only [Act.put, List.setIfInBounds_toArray, List.set_cons_zero, List.set_cons_succ]
        refine wpAnyH_ready (rs := [10]) (by kernel_rfl) (by simp) ?_
        refine rd10 (fun K hK => ?_) AllReadyH.nil
        rw [if_pos (by rfl)]
        refine wp_load_mid 28 _ rfl w.heap.size 0 rfl (rowV 32 H) _ XB.out.range Tryd.underlying28 rfl (info_hash32 _) ?_
        refine hK.out _ _ X.out (fun _ => ?_)
        clear hK K
        simp only [Act.put, List.setIfInBounds_toArray, List.set_cons_zero, List.set_cons_succ]
        refine wpAnyH_ready (rs := [11]) (by kernel_rfl) (by simp) ?_
        refine rd11 (fun K hK => ?_) AllReadyH.nil
        go_simp
        refine (node_any Fl H HFL.out HH.out (HT.out.below HBW.out)).mono ?_
        rintro e9 w7 ⟨rfl, hb⟩
        simp only []
        replace X := hide (X.out.after hb)
        replace XB := hide (XB.out.after hb rfl)
        replace P5 := hide (P5.out.below hb)
        replace M5 := hide (M5.out.on hb)
        clear hb HBW
        refine hK.out _ _ X.out (fun _ => ?_)
        clear hK K
        obtain ⟨N, hN⟩ : ∃ N, dnode Fl H = N := ⟨_, rfl⟩
        rw [hN] at HUP
        rw [hN]
        clear hN
        refine wpAnyH_ready (rs := [12]) (by kernel_rfl) (by simp) ?_
        refine rd12 (fun K hK => ?_) AllReadyH.nil
        rw [if_pos (by rfl)]
        refine wp_store_mid _ _ _ rfl w.heap.size 0 (rowV 32 N).toArray rfl rfl (XB.out.thereA N) (info_hash32A _) (rowV_oneA _ _) ?_
        refine hK.out _ _ (X.out.of (by rw [setCells_size]; exact Nat.le_refl _) (setCells_block _ _ _ _ _ (fun e => HN5.out (by rw [← e]; exact P5.out.mine))) (setCells_block _ _ _ _ _ (fun e => HN5.out (by rw [← e]; exact HSB.out)))) (fun _ => ?_)
        clear hK K
        refine wpAnyH_done (by kernel_rfl) ?_ _
        have D2 : Hid (AD w (w7.setCells w.heap.size 0 (rowV 32 N)) g d S L x (l + 1)) := ⟨HE1.out, HE2.out, by rw [HUP.out]; exact XB.out.stored N, S3, P5.out.putA HN5.out _ _, M5.out.putA (Nat.le_refl _) _ _, HN5.out⟩
        try simp only [Act.put]
        generalize w7.setCells w.heap.size 0 (rowV 32 N) = w8 at *
        clear X XB P5 M5
        go_wp2
        go_step3
        refine ⟨rfl, AJ.mk (l := l + 1) (by omega) D2.out, ?_⟩
        show (33 - ((l : Int) + 1)).toNat < (33 - (l : Int)).toNat
        omega
      · have hodd : (c : Int) % 2 = 1 := by omega
        have T : Hid (Tr w5 g S3 d (L ++ [x])) := ⟨HD.out, by rw [List.length_append]; exact HLN.out, by rw [List.length_append]; exact HFEW.out, HOK.out, P5.out.congr (fun k _ => mix_done hq.2 (by omega) k)⟩
        clear hq hc hcc hqd hqf hev
        go_wp2
        simp only [Exit.jump]
        go_ret2
        exact ⟨rfl, S3, T.out, M5.out⟩
    · skip
      rw [if_pos (by rfl)]
      refine wp_build_hs _ rfl H rfl ?_
      replace X := hide (X.out.past (.cells (rowV 32 H).toArray 28))
      have NB := hide (one_hs wr.drew H (g := wr.drew.heap.size) rfl)
      have BW : Hid (Below wr.heap.size wr (wr.drew.alloc (.cells (rowV 32 H).toArray 28))) := bAl (bMe wr).drew
      refine hK.out _ _ X.out (fun _ => ?_)
      clear hK K
      simp only [Act.put, List.setIfInBounds_toArray, List.set_cons_zero, List.set_cons_succ]
      generalize wr.drew.alloc (.cells (rowV 32 H).toArray 28) = w2 at *
      refine wpAnyH_ready (rs := [7]) (by kernel_rfl) (by simp) ?_
      refine rd7 (fun K hK => ?_) AllReadyH.nil
      have hcd : w2.cell? ⟨g, 1 + l, none⟩ = some (.slice ao (lv L l).length cap) := (BW.out.cell (p := ⟨g, 1 + l, none⟩) HB.out.lt).trans HCC.out
      go_simp
      refine hK.out _ _ X.out (fun _ => ?_)
      clear hK K hcd
      refine wpAnyH_ready (rs := [10]) (by kernel_rfl) (by simp) ?_
      refine rd10 (fun K hK => ?_) AllReadyH.nil
      refine step_app_hs rfl _ _ rfl (.slice ao (lv L l).length cap) (lv L l) [H] (some ⟨wr.drew.heap.size, 0, none⟩) 1 1 (by simp [Act.eval]) (by simp [Act.eval]) rfl (HV.out.below BW.out) NB.out (fun e => by simp at e) (by have := HLEN.out; simp; omega) ?_
      intro v3 w3 hv3 hg3 hn3
      replace X : Hid (BRow w3 w.heap.size 32 H) := X.out.of hg3.size (hg3.block _ X.out.lt (fun e => HNG.out (HSV.out _ e.symm).1))
      refine hK.out _ _ X.out (fun _ => ?_)
      clear hK K
      simp only [Act.put, List.setIfInBounds_toArray, List.set_cons_zero, List.set_cons_succ]
      obtain ⟨p1, p2, S3, p3, p4⟩ := HB.out.put (k := l) BW.out HL33.out HCW.out hv3 hg3 (fun b hb => (hn3 b hb).imp id (fun e => by rw [e]; exact Nat.le_refl _))
      obtain ⟨ao3, cap3, rfl, -, -, -, -⟩ := hv3.form
      rw [Nat.add_comm l 1] at p1 p2 p3 p4
      have hn2 : (lv L l ++ [H]).length = (lv L l).length + 1 := by rw [List.length_append]; rfl
      rw [HSN.out, hn2] at p3
      rw [hn2] at p4
      have HP3 := hide p3; have HP4 := hide p4
      clear p3 p4 hg3 hn3 hv3 hn2
      refine tk13 (v := .pointer (some ⟨g, 1 + l, none⟩)) (by kernel_rfl) (by kernel_rfl) (by kernel_rfl) (fun _ _ _ h => h) X.out (Or.inl ⟨by rfl, fun w hw => by go_simp; try (with_reducible rfl)⟩) ?_
      simp only [Act.put, List.setIfInBounds_toArray, List.set_cons_zero, List.set_cons_succ]
      refine wpAnyH_ready (rs := [14]) (by kernel_rfl) (by simp) ?_
      refine rd14 (fun K hK => ?_) AllReadyH.nil
      go_simp
      refine hK.out _ _ (X.out.other (fun e => HNG.out (by rw [e]; exact HB.out.mine)) _) (fun _ => ?_)
      replace X := hide (X.out.other (p := ⟨g, 1 + l, none⟩) (fun e => HNG.out (by rw [e]; exact HB.out.mine)) (.slice ao3 ((lv L l).length + 1) cap3))
      clear hK K p1 p2
      refine wpAnyH_done (by kernel_rfl) ?_ _
      try simp only [Act.put]
      generalize w3.setCell ⟨g, 1 + l, none⟩ (.slice ao3 ((lv L l).length + 1) cap3) = w5 at *
      have P5 := HP3
      have M5 := hide (HM.out.trans HP4.out)
      have XB := X
      have HN5 : Hid (¬ S3 w.heap.size) := fun e => by
        rcases M5.out.own _ e with q | q
        · exact HNS.out q
        · rcases HP4.out.own _ e with q | q
          · exact HNG.out q
          · exact absurd (Nat.lt_of_lt_of_le HWL.out q) (Nat.lt_irrefl _)
      clear HP3 HP4 HB HM HNG HSV HV HCW HCC X
      obtain ⟨v5, hc5, hr5, hs5⟩ := P5.out.row HL33.out
      rw [mix_past] at hr5
      obtain ⟨ao5, cap5, rfl, -, -, -, -⟩ := hr5.form
      obtain ⟨c, hc⟩ : ∃ c, (lv (L ++ [x]) l).length = c := ⟨_, rfl⟩
      have hq := full_is HFULL.out
      rw [hc] at hc5
      obtain ⟨q, hqd⟩ : ∃ q, L.length / 2 ^ l = q := ⟨_, rfl⟩
      have hqf : q ≤ 1000 := by rw [← hqd]; have := Nat.div_le_self L.length (2 ^ l); omega
      rw [hqd] at hq
      have hcc : c = q + 1 := by rw [← hc, HLV.out, List.length_append, lv_length, hqd]; rfl
      have hcell : w5.cell? ⟨g, 1 + l, none⟩ = some (.slice ao5 c cap5) := by rw [Nat.add_comm] at hc5; exact hc5
      have hci : (c : Int) ≤ 1001 := by omega
      clear hc5 hr5 hs5
      by_cases hev : c % 2 = 0
      · obtain ⟨e, hce⟩ : ∃ e, c = e + 2 := ⟨c - 2, by omega⟩
        have hevi : (c : Int) % 2 = 0 := by omega
        have hcs : (c : Int) - 2 = (e : Int) := by omega
        have hcw2 : IntKind.i64.wrap ((c : Int) - 2) = (e : Int) := by rw [IntKind.wrap_i64]; omega
        have hei : (e : Int) ≤ 1000 := by omega
        have hwe : IntKind.i64.wrap (e : Int) = (e : Int) := by rw [IntKind.wrap_i64]; omega
        have hrow : (mix L x (l + 1) l)[e]? = some (tn (L ++ [x]) l e) := by rw [mix_past]; exact lv_get _ _ _ (by rw [List.length_append, List.length_singleton, hq.2]; omega)
        obtain ⟨Fl, hFl⟩ : ∃ F, tn (L ++ [x]) l e = F := ⟨_, rfl⟩
        rw [hFl] at hrow
        obtain ⟨blk, off, cap6, hx, hSb, hcp⟩ := P5.out.read HL33.out hrow
        rw [mix_past, hc] at hx
        have HSB := hide hSb
        have HFL : Hid (Hok Fl) := by rw [← hFl]; exact tn_ok HOK.out l _
        have HE1 : Hid (l + 1 ≤ d) := up_le hq.1 (by omega) HLN.out
        have HE2 : Hid ((L.length + 1) % 2 ^ (l + 1) = 0) := up_full hq.1 hq.2 (by omega)
        have HUP : Hid (tn (L ++ [x]) (l + 1) (L.length / 2 ^ (l + 1)) = dnode Fl H) := by
          show _ = _
          have h1 : L.length / 2 ^ l = e + 1 := by rw [hqd]; omega
          have h2 : L.length / 2 ^ (l + 1) = e / 2 := by rw [Nat.pow_succ, ← Nat.div_div_eq_div_mul, h1]; omega
          have h3 := HHD.out
          rw [h1] at h3
          rw [h2, tn_next, show 2 * (e / 2) = e by omega, hFl, h3]
        have hmi5 : (e : Int) < (c : Int) := by omega
        have hcell2 := hx.cell
        rw [hcell] at hcell2
        simp only [Option.some.injEq, Value.slice.injEq, true_and] at hcell2
        obtain ⟨rfl, rfl⟩ := hcell2
        have X : Hid (XR g l blk off c cap5 e Fl w5.drew) := hx.after (bMe w5).drew
        replace XB := hide (XB.out.after (bMe w5).drew rfl)
        replace P5 := hide (P5.out.below (bMe w5).drew)
        replace M5 := hide (M5.out.on (bMe w5).drew)
        have HBW : Hid (Below w0.heap.size w0 w5.drew) := M5.out.below HB0.out HLOWS.out
        have hcell3 : w5.cell? ⟨g, 1 + l, none⟩ = some (.slice (some ⟨blk, off, none⟩) c cap5) := by rw [hcell]
        clear hx hSb hrow hFl hq hc hcc hcell hcp hev hqd hqf hce
        go_wp2_with fail
        refine wp_region_held_drew (S := XR g l blk off c cap5 e Fl) (by kernel_rfl) X.out (fun _ => ?_)
        refine tk0 (v := .pointer (some ⟨g, 0, none⟩)) (by kernel_rfl) (by kernel_rfl) (by kernel_rfl) (fun _ _ _ h => h) X.out (Or.inl ⟨by rfl, fun w hw => by go_simp; try (with_reducible rfl)⟩) ?_
        simp only [Act.put, List.setIfInBounds_toArray, List.set_cons_zero, List.set_cons_succ]
        refine tk1 (v := .int .i64 (l : Int)) (by kernel_rfl) (by kernel_rfl) (by kernel_rfl) (fun _ _ _ h => h) X.out (Or.inl ⟨by rfl, fun w hw => by go_simp; try (with_reducible rfl)⟩) ?_
        simp only [Act.put, List.setIfInBounds_toArray, List.set_cons_zero, List.set_cons_succ]
        refine tk2 (v := .pointer (some ⟨g, 0, none⟩)) (by kernel_rfl) (by kernel_rfl) (by kernel_rfl) (fun _ _ _ h => h) X.out (Or.inl ⟨by rfl, fun w hw => by go_simp; try (with_reducible rfl)⟩) ?_
        simp only [Act.put, List.setIfInBounds_toArray, List.set_cons_zero, List.set_cons_succ]
        refine tk3 (v := .pointer (some ⟨g, 1, none⟩)) (by kernel_rfl) (by kernel_rfl) (by kernel_rfl) (fun _ _ _ h => h) X.out (Or.inl ⟨by rfl, fun w hw => by go_simp; try (with_reducible rfl)⟩) ?_
        simp only [Act.put, List.setIfInBounds_toArray, List.set_cons_zero, List.set_cons_succ]
        refine tk4 (v := .pointer (some ⟨g, 1 + l, none⟩)) (by kernel_rfl) (by kernel_rfl) (by kernel_rfl) (fun _ _ _ h => h) X.out (Or.inl ⟨by rfl, fun w hw => by go_simp; try (with_reducible rfl)⟩) ?_
        simp only [Act.put, List.setIfInBounds_toArray, List.set_cons_zero, List.set_cons_succ]
        refine tk5 (v := .slice (some ⟨blk, off, none⟩) c cap5) (by kernel_rfl) (by kernel_rfl) (by kernel_rfl) (fun _ _ _ h => h) X.out (Or.inl ⟨by rfl, fun w hw => by have c := hw.cell; go_simp; try (with_reducible rfl)⟩) ?_
        simp only [Act.put, List.setIfInBounds_toArray, List.set_cons_zero, List.set_cons_succ]
        refine tk6 (v := .int .i64 (c : Int)) (by kernel_rfl) (by kernel_rfl) (by kernel_rfl) (fun _ _ _ h => h) X.out (Or.inl ⟨by rfl, fun w hw => by go_simp; try (with_reducible rfl)⟩) ?_
        simp only [Act.put, List.setIfInBounds_toArray, List.set_cons_zero, List.set_cons_succ]
        refine tk7 (v := .int .i64 (e : Int)) (by kernel_rfl) (by kernel_rfl) (by kernel_rfl) (fun _ _ _ h => h) X.out (Or.inl ⟨by rfl, fun w hw => by go_simp; try (with_reducible rfl)⟩) ?_
        simp only [Act.put, List.setIfInBounds_toArray, List.set_cons_zero, List.set_cons_succ]
        refine tk8 (v := .pointer (some ⟨blk, off + e * 32, none⟩)) (by kernel_rfl) (by kernel_rfl) (by kernel_rfl) (fun _ _ _ h => h) X.out (Or.inl ⟨by rfl, fun w hw => by go_simp; try (with_reducible rfl)⟩) ?_
        simp only [Act.put, List.setIfInBounds_toArray, List.set_cons_zero, List.set_cons_succ]
        refine tk9 (by kernel_rfl) (by kernel_rfl) (by kernel_rfl) (fun _ _ _ h => h) X.out (yieldsIf_load_mid (by rfl) _ _ rfl blk (off + e * 32) rfl (rowV 32 Fl) _ (fun _ hw => hw.row) Tryd.underlying28 rfl (info_hash32 _)) ?_
        simp only [Act.put, List.setIfInBounds_toArray, List.set_cons_zero, List.set_cons_succ]
        refine wpAnyH_ready (rs := [10]) (by kernel_rfl) (by simp) ?_
        refine rd10 (fun K hK => ?_) AllReadyH.nil
        rw [if_pos (by rfl)]
        refine wp_load_mid 28 _ rfl w.heap.size 0 rfl (rowV 32 H) _ XB.out.range Tryd.underlying28 rfl (info_hash32 _) ?_
        refine hK.out _ _ X.out (fun _ => ?_)
        clear hK K
        simp only [Act.put, List.setIfInBounds_toArray, List.set_cons_zero, List.set_cons_succ]
        refine wpAnyH_ready (rs := [11]) (by kernel_rfl) (by simp) ?_
        refine rd11 (fun K hK => ?_) AllReadyH.nil
        go_simp
        refine (node_any Fl H HFL.out HH.out (HT.out.below HBW.out)).mono ?_
        rintro e9 w7 ⟨rfl, hb⟩
        simp only []
        replace X := hide (X.out.after hb)
        replace XB := hide (XB.out.after hb rfl)
        replace P5 := hide (P5.out.below hb)
        replace M5 := hide (M5.out.on hb)
        clear hb HBW
        refine hK.out _ _ X.out (fun _ => ?_)
        clear hK K
        obtain ⟨N, hN⟩ : ∃ N, dnode Fl H = N := ⟨_, rfl⟩
        rw [hN] at HUP
        rw [hN]
        clear hN
        refine wpAnyH_ready (rs := [12]) (by kernel_rfl) (by simp) ?_
        refine rd12 (fun K hK => ?_) AllReadyH.nil
        rw [if_pos (by rfl)]
        refine wp_store_mid _ _ _ rfl w.heap.size 0 (rowV 32 N).toArray rfl rfl (XB.out.thereA N) (info_hash32A _) (rowV_oneA _ _) ?_
        refine hK.out _ _ (X.out.of (by rw [setCells_size]; exact Nat.le_refl _) (setCells_block _ _ _ _ _ (fun e => HN5.out (by rw [← e]; exact P5.out.mine))) (setCells_block _ _ _ _ _ (fun e => HN5.out (by rw [← e]; exact HSB.out)))) (fun _ => ?_)
        clear hK K
        refine wpAnyH_done (by kernel_rfl) ?_ _
        have D2 : Hid (AD w (w7.setCells w.heap.size 0 (rowV 32 N)) g d S L x (l + 1)) := ⟨HE1.out, HE2.out, by rw [HUP.out]; exact XB.out.stored N, S3, P5.out.putA HN5.out _ _, M5.out.putA (Nat.le_refl _) _ _, HN5.out⟩
        try simp only [Act.put]
        generalize w7.setCells w.heap.size 0 (rowV 32 N) = w8 at *
        clear X XB P5 M5
        go_wp2
        go_step3
        refine ⟨rfl, AJ.mk (l := l + 1) (by omega) D2.out, ?_⟩
        show (33 - ((l : Int) + 1)).toNat < (33 - (l : Int)).toNat
        omega
      · have hodd : (c : Int) % 2 = 1 := by omega
        have T : Hid (Tr w5 g S3 d (L ++ [x])) := ⟨HD.out, by rw [List.length_append]; exact HLN.out, by rw [List.length_append]; exact HFEW.out, HOK.out, P5.out.congr (fun k _ => mix_done hq.2 (by omega) k)⟩
        clear hq hc hcc hqd hqf hev
        go_wp2
        simp only [Exit.jump]
        go_ret2
        exact ⟨rfl, S3, T.out, M5.out⟩
  · obtain ⟨p, hp⟩ : ∃ p : Int, ((2 ^ d : Nat) : Int) = p := ⟨_, rfl⟩
    have HP := hide hp
    have hlp : (L.length : Int) < p := by omega
    have J0 : Hid (AD w (w.alloc (.cells (rowV 32 x).toArray 28)) g d S L x 0) := by
      refine ⟨Nat.zero_le _, Nat.mod_one _, ?_, S, H0.out.box.congr (fun k _ => (mix_zero L x k).symm), Mv.of B.out, HNS.out⟩
      have e : tn (L ++ [x]) 0 (L.length / 2 ^ 0) = x := by rw [tn_zero]; simp
      rw [e]
      exact BX.out
    clear hp
    generalize w.alloc (.cells (rowV 32 x).toArray 28) = w1 at *
    have HC := hide hcore
    clear hcore
    go_wp2_with (first
      | (go_at_call 18; refine (len_any H0.out.box (by rw [lv_zero]; omega)).mono ?_; rintro e w' ⟨rfl, rfl⟩; rw [lv_zero])
      | (go_at_call 26; refine (room0_any H0.out.box HD.out).mono ?_; rintro e w' ⟨rfl, rfl⟩; rw [HP.out]))
    go_step3
    rename_i K hK
    exact hK _ _ (HC.out _ _ (AJ.mk (l := 0) rfl J0.out))
end Go.Proofs.YtjkhboejhcbdpaaDoor
