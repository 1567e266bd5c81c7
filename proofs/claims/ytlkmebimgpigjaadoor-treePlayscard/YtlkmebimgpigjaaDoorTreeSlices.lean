/- Contracts of slices.Delete and slices.Clone, at rows of sums, over this translation. -/
import Derived.Test.YtlkmebimgpigjaaDoorTreeLeaf
import Derived.Deep.RegionLaw
import Derived.Lib.SliceRun
namespace Go.Proofs.YtlkmebimgpigjaaDoor
open Go.RowKit Go.Lib
attribute [local go_sem] setCell_drewN alloc_drewN

/-- 'clear' of sums at a row's end: the row, cut to what is ahead. -/
theorem run_clear_hs (w : World) (ty : TypeId) {g cap : Nat} {L : List Hs} (h : HR w (.slice (some ⟨g, 0, none⟩) L.length cap) L) (i : Nat) (hi : i < L.length) :
    ∃ w', (∀ c, (Builtin.clear_ #[27] ty #[.slice (some ⟨g, i * 32, none⟩) (L.length - i) c]).run Tryd.prog w = .ok (.tuple #[]) w') ∧ HR w' (.slice (some ⟨g, 0, none⟩) i cap) (L.take i) ∧ w.grownBy w' (some g) := by
  obtain ⟨i0, z0, hi0, hz0, hzs, hz1, hz2⟩ := info_hs
  obtain ⟨m, hm⟩ : ∃ m, L.length - i = m + 1 := ⟨L.length - i - 1, by omega⟩
  have hzv : (zeroValue 32).run Tryd.prog w = .ok z0 w := by simp [zeroValue, typeInfo, hi0, hz0]
  rcases h.2 with ⟨e, _⟩ | ⟨g', cap', cur, e, hb, hg, hcap, hmx, hs, ht⟩
  · simp at e
  simp only [Value.slice.injEq, Option.some.injEq, Addr.mk.injEq, and_true, true_and] at e
  obtain ⟨rfl, rfl⟩ := e
  have h1c : ∀ u ∈ (Builtin.zeroCells z0.cells (m + 1)).toList, u.oneCell' = true := by
    have hzz : z0.cells.all (·.oneCell') = true := by
      have h1 : (Tryd.prog.info? 32).map (fun i => i.zero.map (fun z => z.cells.all (·.oneCell'))) = some (some true) := by kernel_rfl
      rw [hi0] at h1
      simpa [hz0] using h1
    intro u hu
    simp only [Builtin.zeroCells, Array.toList_map, List.mem_map] at hu
    obtain ⟨q, _, rfl⟩ := hu
    rw [Array.all_eq_true] at hzz
    have hq : q % z0.cells.size < z0.cells.size := Nat.mod_lt _ (by rw [hzs]; omega)
    rw [getElem!_pos z0.cells _ hq]
    exact hzz _ hq
  have hlen : (Builtin.zeroCells z0.cells (m + 1)).toList.length = (m + 1) * 32 := by rw [Array.length_toList, size_zeroCells, hzs]
  obtain ⟨zs, hzsd⟩ : ∃ zs, (Builtin.zeroCells z0.cells (m + 1)).toList = zs := ⟨_, rfl⟩
  rw [hzsd] at h1c hlen
  have hst := run_storeCells_at Tryd.prog g (i * 32) 32 zs 0 cur w hg (by rw [hlen, hs]; omega) h1c
  refine ⟨w.setRow g (cur.toList.take (i * 32 + 0) ++ zs ++ cur.toList.drop (i * 32 + 0 + zs.length)).toArray, fun c => ?_, ?_, ?_⟩
  · rw [hm]
    simp [Builtin.clear_, run_underlying Tryd.underlying27, hzv, hzsd, hst]
  · have hl : (L.take i).length = i := by rw [List.length_take]; omega
    refine ⟨hC_length _, .inr ⟨g, cap, _, by rw [hl], hb, setRow_heap w g cur _ _ _ hg, by omega, hmx, ?_, ?_⟩⟩
    · simp only [List.size_toArray, List.length_append, List.length_take, List.length_drop, Array.length_toList, hlen]
      omega
    · rw [hC_take, ← ht, hl, List.take_take, Nat.min_eq_left (Nat.mul_le_mul_right _ (by omega))]
      simp only [Nat.add_zero, List.append_assoc]
      rw [List.take_append_of_le_length (by rw [List.length_take, Array.length_toList, hs]; omega), List.take_take, Nat.min_self]
  · exact ⟨rfl, rfl, rfl, by simp, fun k _ hk => setRow_other w g k _ (fun e => hk (by simp [e]))⟩
set_option maxRecDepth 100000 in
set_option maxHeartbeats 4000000 in
theorem delete_any {w : World} {v : Value} {L : List Hs} (h : HR w v L) (hL : L.length ≤ 1000000) (i : Nat) (hi : i ≤ L.length) :
    Calls Tryd.prog 26 #[v, .int .i64 i, .int .i64 L.length] w fun e w' => ∃ v', e = .returned v' ∧ HR w' v' (L.take i) ∧ w.grownBy w' v.ownBlock ∧ v'.ownBlock = v.ownBlock := by
  by_cases heq : i = L.length
  · subst heq
    obtain ⟨ao, cap, hv, hcap, hmax, hnone, _⟩ := h.form
    have h0 : Calls Tryd.prog 26 #[v, .int .i64 L.length, .int .i64 L.length] w fun e w' => e = .returned v ∧ w' = w := by
      rw [hv]
      clear h
      unfold maxLen at hmax
      have hli : (L.length : Int) ≤ 1000000 := by omega
      generalize L.length = n at *
      cases ao with
      | none =>
        obtain rfl := hnone rfl
        obtain rfl : n = 0 := by omega
        clear hv hnone hcap hmax hL hi hli
        go_enter Tryd.func26, Tryd.ntmps26
        go_wp2
        all_goals (go_ret; exact ⟨rfl, rfl⟩)
      | some a =>
        clear hv hnone
        go_enter Tryd.func26, Tryd.ntmps26
        go_wp2
        all_goals (go_ret; exact ⟨rfl, rfl⟩)
    refine h0.mono ?_
    rintro e w' ⟨rfl, rfl⟩
    exact ⟨v, rfl, by rw [List.take_length]; exact h, ⟨rfl, rfl, rfl, Nat.le_refl _, fun _ _ _ => rfl⟩, rfl⟩
  · have hlt : i < L.length := by omega
    rcases h.2 with ⟨_, e⟩ | ⟨g, cap, cur, rfl, hb, hg, hcap, hmx, hs, ht⟩
    · omega
    clear hb hg hs ht
    obtain ⟨w1, hcl, hr, hgr⟩ := run_clear_hs w.drew 0 (g := g) (cap := cap) h.drew i hlt
    obtain ⟨i0, z0, hi0, hz0, hzs, hz1, hz2⟩ := info_hs
    have HR1 := hide hr; have HG := hide hgr
    clear hr hgr h
    unfold maxLen at hmx
    have hli : (L.length : Int) ≤ 1000000 := by omega
    have hii : (i : Int) < (L.length : Int) := by omega
    have hci : (L.length : Int) ≤ (cap : Int) := by omega
    obtain ⟨A, hA⟩ : ∃ A : Addr, (if cap = L.length then some (⟨g, 0, none⟩ : Addr) else some ⟨g, L.length * 32, none⟩) = some A := by
      split
      · exact ⟨_, rfl⟩
      · exact ⟨_, rfl⟩
    have HA := hide hA
    have HC := hide hcl
    clear hA hcl
    have e1 : ¬ cap = i := by omega
    have e2 : i ≤ cap := by omega
    generalize L.length = n at *
    have e3 : n ≤ cap := hcap
    have e4 : i ≤ n := by omega
    have hcl := HC.out
    have hA := HA.out
    clear HA HC hcap hi heq hL
    go_enter Tryd.func26, Tryd.ntmps26
    go_wp2_with fail
    go_region_law (refine step_append_room rfl (.tmp 22) (.tmp 25) 27 rfl 32 i0 32 Tryd.underlying27 hi0 hz1 g 0 i cap (by simp [Act.eval, Act.put]) A 0 (cap - n) [] (by simp [Act.eval, Act.put]) rfl (fun j u hu => by simp at hu) (fun u hu => by simp at hu) (by omega) (fun j hj => by simp at hj) ?_; simp only [World.setCells])
    go_wp2
    go_ret
    exact ⟨_, rfl, HR1.out, ⟨HG.out.os, HG.out.tape, HG.out.output, HG.out.size, HG.out.block⟩, rfl⟩
/-- Sums are appended to a row of the call's own: it stays where it is, or comes anew. -/
theorem run_app_hs (w : World) (ty : TypeId) {v : Value} {L L2 : List Hs} {ao : Option Addr} {c : Nat} (hown : HR w v L) (hsrc : Hl w ao L2) (hao : ao = none → c = 0) (hlen : L.length + L2.length ≤ 2000000) :
    ∃ v' w', (Builtin.append_ #[27, 27] ty #[v, .slice ao L2.length c]).run Tryd.prog w = .ok v' w' ∧ HR w' v' (L ++ L2) ∧ w.grownBy w' v.ownBlock ∧ (∀ b, v'.ownBlock = some b → v.ownBlock = some b ∨ b = w.heap.size) := by
  obtain ⟨i0, z0, hi, hz0, hzs, hz1, hz2⟩ := info_hs
  cases ao with
  | none =>
    obtain rfl := hao rfl
    obtain rfl : L2 = [] := by
      rcases hsrc with h | ⟨b, off, h, _⟩
      · exact h
      · simp at h
    exact ⟨v, w, run_append_owned_none (P := Tryd.prog) w 0 27 ty 32 i0 32 Tryd.underlying27 hi v L.length (hC L) hown, by simpa using hown, ⟨rfl, rfl, rfl, Nat.le_refl _, fun _ _ _ => rfl⟩, fun b hb => .inl hb⟩
  | some a =>
    have hnews : ∀ j u, (hC L2)[j]? = some u → w.cell? (a.add j) = some u := by
      intro j u hu
      have hj : j < L2.length * 32 := by have := (List.getElem?_eq_some_iff.1 hu).1; rwa [hC_length] at this
      rcases hsrc with rfl | ⟨b, off, e, hl, hc⟩
      · simp at hj
      · simp only [Option.some.injEq] at e
        subst e
        obtain ⟨x, hx⟩ : ∃ x, L2[j / 32]? = some x := ⟨L2[j / 32], by rw [List.getElem?_eq_getElem (by omega)]⟩
        obtain ⟨u', hu'⟩ : ∃ u', (rowV 32 x)[j % 32]? = some u' := ⟨(rowV 32 x)[j % 32]'(by rw [rowV_length]; omega), by rw [List.getElem?_eq_getElem (by rw [rowV_length]; omega)]⟩
        have h1 := hC_get L2 (j / 32) x hx (j % 32) u' hu'
        rw [show j / 32 * 32 + j % 32 = j by omega, hu] at h1
        injection h1 with h1
        subst h1
        have h2 := hc (j / 32) x hx (j % 32) u hu'
        rw [Addr.add_mid]
        rwa [show off + j / 32 * 32 + j % 32 = off + j by omega] at h2
    obtain ⟨v', w', hrun, r1, r2, _, r3⟩ := run_append_own_at (P := Tryd.prog) w 0 27 ty 32 i0 z0 32 32 Tryd.underlying27 hi hz0 hz1 hz2 hzs (by decide) v L.length (hC L) hown a L2.length c (hC L2) (hC_length _) hnews (hC_one L2) (by unfold maxLen; omega) (by omega) (Nat.zero_le _)
    refine ⟨v', w', hrun, ?_, r2, fun b hb => ?_⟩
    · unfold HR
      rw [List.length_append, hC_append]
      exact r1
    · rcases r3 with e | e
      · exact .inl (by rw [← e]; exact hb)
      · rw [e] at hb; simp at hb; exact .inr hb.symm
/-- The same as one step of a region. -/
theorem step_app_hs {ops : Array Oper} {o : Oper} {a : Act} {w : World} {K : Act → World → Prop} {Q : Exit → Act → World → Prop} {E : Prop} (hgd : o.guard = none) (s x : Operand)
    (ho : o.op = .call { callee := .builtin .append, args := #[s, x], argTypes := #[27, 27] }) (v : Value) (L L2 : List Hs) (ao : Option Addr) (n c : Nat) (hs : a.eval s = v) (hx : a.eval x = .slice ao n c) (hn : n = L2.length)
    (hown : HR w v L) (hsrc : Hl w ao L2) (hao : ao = none → c = 0) (hlen : L.length + L2.length ≤ 2000000)
    (h : ∀ v' w', HR w' v' (L ++ L2) → w.grownBy w' v.ownBlock → (∀ b, v'.ownBlock = some b → v.ownBlock = some b ∨ b = w.heap.size) → K (a.put o.dst v') w') :
    if Region.wanted o (yielded ops a.tmps) = true then Oper.wp Tryd.prog o a w K Q else E := by
  subst hn
  have hw : Region.wanted o (yielded ops a.tmps) = true := by simp [Region.wanted, hgd]
  rw [if_pos hw]
  obtain ⟨v', w', hrun, r1, r2, r3⟩ := run_app_hs w o.type hown hsrc hao hlen
  unfold Oper.wp
  simp [execOp, ho, resolve, invoke, builtin, hs, hx, hrun, Result.andThen]
  exact h _ _ r1 r2 r3
/-- The same in a plain region. -/
theorem wpList_app_hs {ops : Array Oper} {rest : List Oper} {o : Oper} {a : Act} {w : World} {Q : Exit → Act → World → Prop} (hgd : o.guard = none) (s x : Operand)
    (ho : o.op = .call { callee := .builtin .append, args := #[s, x], argTypes := #[27, 27] }) (v : Value) (L L2 : List Hs) (ao : Option Addr) (n c : Nat) (hs : a.eval s = v) (hx : a.eval x = .slice ao n c) (hn : n = L2.length)
    (hown : HR w v L) (hsrc : Hl w ao L2) (hao : ao = none → c = 0) (hlen : L.length + L2.length ≤ 2000000)
    (h : ∀ v' w', HR w' v' (L ++ L2) → w.grownBy w' v.ownBlock → (∀ b, v'.ownBlock = some b → v.ownBlock = some b ∨ b = w.heap.size) → wpList Tryd.prog ops Q rest (a.put o.dst v') w') :
    wpList Tryd.prog ops Q (o :: rest) a w := by
  subst hn
  obtain ⟨v', w', hrun, r1, r2, r3⟩ := run_app_hs w o.type hown hsrc hao hlen
  refine wpList_plain hgd fun _ hK => ?_
  unfold Oper.wp
  simp [execOp, ho, resolve, invoke, builtin, hs, hx, hrun, Result.andThen]
  exact hK _ _ (h v' w' r1 r2 r3)
/-- An empty literal's row. -/
theorem HR.empty (w : World) {g : Nat} (e : w.heap.size = g) : HR (w.alloc (.cells #[] 32)) (.slice (some ⟨g, 0, none⟩) 0 0) [] := by
  subst e
  exact World.ownsRow_made w #[] 0 (Nat.zero_le _) (by simp [maxLen]) (by simp)
set_option maxRecDepth 100000 in
set_option maxHeartbeats 4000000 in
theorem clone_any {w : World} {v : Value} {L : List Hs} (h : HR w v L) (hL : L.length ≤ 1000000) :
    Calls Tryd.prog 28 #[v] w fun e w' => ∃ v', e = .returned v' ∧ HR w' v' L ∧ Below w.heap.size w w' ∧ ∀ b, v'.ownBlock = some b → w.heap.size ≤ b := by
  obtain ⟨ao, cap, rfl, hcap, hmax, hnone, hl⟩ := h.form
  cases ao with
  | none =>
    obtain rfl := hnone rfl
    obtain rfl : L = [] := List.eq_nil_of_length_eq_zero (by omega)
    have H := hide h
    have hnl : (binOp .eql 27 (.slice none 0 0) (.slice none 0 0)).run Tryd.prog w = .ok (.bool true) w := Go.Lib.run_eql_slice_nil (P := Tryd.prog) w 27 32 none 0 0 0 0 Tryd.underlying27
    clear h hl
    go_enter Tryd.func28, Tryd.ntmps28
    go_wp2
    go_ret
    exact ⟨_, rfl, H.out, bMe w, fun b hb => by simp [Value.ownBlock] at hb⟩
  | some a =>
    have E := hide (HR.empty w (g := w.heap.size) rfl)
    have B := hide (bAl (o := .cells #[] 32) (bMe w))
    have HL := hide (hl.below B.out)
    have hnl : (binOp .eql 27 (.slice (some a) L.length cap) (.slice none 0 0)).run Tryd.prog w = .ok (.bool false) w := Go.Lib.run_eql_slice_nil (P := Tryd.prog) w 27 32 (some a) L.length cap 0 0 Tryd.underlying27
    clear hl h
    go_enter Tryd.func28, Tryd.ntmps28
    go_wp2_with (at_builtin; refine wpList_app_hs rfl _ _ rfl (.slice (some ⟨w.heap.size, 0, none⟩) 0 0) [] L (some a) _ cap rfl rfl rfl E.out HL.out (fun e => by simp at e) (by simp; omega) ?_)
    intro v' w' hr hg hn
    have R := hide hr
    have B2 := hide (B.out.grown hg (by simp) (fun k hk => by simp [Value.ownBlock] at hk; omega))
    have HN := hide hn
    clear hr hg hn
    go_wp2
    go_ret
    refine ⟨v', rfl, by simpa using R.out, B2.out, fun b hb => ?_⟩
    rcases HN.out b hb with e | e
    · simp [Value.ownBlock] at e; omega
    · rw [e]; simp
end Go.Proofs.YtlkmebimgpigjaaDoor
