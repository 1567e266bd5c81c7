/- Rows of events of a call's own; the contract of sponsionlaw09.Refs. -/
import Derived.Test.YtajkdbpojeaflaaEvts
import Derived.Maps.AppendAt
import Derived.Great.BuildSlice
namespace Go.Proofs.Ytajkdbpojeaflaa
open Go.RowKit Go.Lib
attribute [local go_sem] setCell_drewN alloc_drewN

/-- The cells of events, one behind the other. -/
def evC (xs : List Evt) : List Value := (xs.map ec).flatten
theorem evC_cons (x : Evt) (xs : List Evt) : evC (x :: xs) = ec x ++ evC xs := by simp [evC]
theorem evC_snoc (xs : List Evt) (x : Evt) : evC (xs ++ [x]) = evC xs ++ ec x := by simp [evC]
theorem evC_length (xs : List Evt) : (evC xs).length = xs.length * 47 := by
  induction xs with
  | nil => simp [evC]
  | cons x r ih => rw [evC_cons, List.length_append, ec_length, ih]; simp; omega
theorem evC_get : ∀ (xs : List Evt) (j : Nat) (x : Evt), xs[j]? = some x → ∀ i v, (ec x)[i]? = some v → (evC xs)[j * 47 + i]? = some v := by
  intro xs
  induction xs with
  | nil => intro j x h; simp at h
  | cons y r ih =>
    intro j x h i v hv
    have hi : i < 47 := by have := (List.getElem?_eq_some_iff.1 hv).1; rwa [ec_length] at this
    rw [evC_cons]
    cases j with
    | zero =>
      simp at h; subst h
      rw [List.getElem?_append_left (by rw [ec_length]; omega), Nat.zero_mul, Nat.zero_add]; exact hv
    | succ j =>
      rw [List.getElem?_append_right (by rw [ec_length]; omega), ec_length]
      rw [show (j + 1) * 47 + i - 47 = j * 47 + i by omega]
      exact ih j x (by simpa using h) i v hv
theorem evC_one (xs : List Evt) : ∀ u ∈ evC xs, u.oneCell' = true := by
  intro u hu
  unfold evC at hu
  obtain ⟨l, hl, hul⟩ := List.mem_flatten.1 hu
  obtain ⟨x, _, rfl⟩ := List.mem_map.1 hl
  exact ec_one x u hul
/-- The value v holds these events, in a row of its own. -/
structure Es (ty : TypeId) (w0 w : World) (v : Value) (xs : List Evt) : Prop where
  own : w.ownsRow w0.heap.size ty 47 v xs.length (evC xs)
  below : Below w0.heap.size w0 w
theorem Es.nil (ty : TypeId) (w : World) : Es ty w w (.slice none 0 0) [] := ⟨World.ownsRow_nil _ _ _ _, bMe w⟩
theorem Es.after {ty : TypeId} {w0 w w' : World} {v : Value} {xs : List Evt} (h : Es ty w0 w v xs) (hb : Below w.heap.size w w') : Es ty w0 w' v xs := by
  refine ⟨?_, bOn h.below hb⟩
  refine ⟨h.own.1, ?_⟩
  rcases h.own.2 with hn | ⟨g, cap, cur, rfl, hB, hg, r⟩
  · exact .inl hn
  · exact .inr ⟨g, cap, cur, rfl, hB, by rw [hb.block g (Array.getElem?_eq_some_iff.1 hg).1]; exact hg, r⟩
theorem Es.lt {ty : TypeId} {w0 w : World} {v : Value} {xs : List Evt} (h : Es ty w0 w v xs) : ∀ k, v.ownBlock = some k → w0.heap.size ≤ k ∧ k < w.heap.size := h.own.lt
theorem Es.evs {ty : TypeId} {w0 w : World} {v : Value} {xs : List Evt} (h : Es ty w0 w v xs) : ∃ ao cap, v = .slice ao xs.length cap ∧ Evs w ao xs ∧ (∀ k, blk ao = some k → w0.heap.size ≤ k) ∧ (ao = none → cap = 0) ∧ xs.length ≤ cap ∧ cap ≤ maxLen := by
  rcases h.own.2 with ⟨rfl, e⟩ | ⟨g, cap, cur, rfl, hb, hg, hcap, hm, hs, ht⟩
  · exact ⟨none, 0, by rw [e], .inl (List.eq_nil_of_length_eq_zero e), fun k hk => by simp [blk] at hk, fun _ => rfl, by omega, by simp [maxLen]⟩
  · refine ⟨_, cap, rfl, .inr ⟨g, 0, rfl, (Array.getElem?_eq_some_iff.1 hg).1, fun j x hx i v hv => ?_⟩, fun k hk => by simp [blk] at hk; omega, fun e => by simp at e, hcap, hm⟩
    have hj : j < xs.length := (List.getElem?_eq_some_iff.1 hx).1
    have hi : i < 47 := by have := (List.getElem?_eq_some_iff.1 hv).1; rwa [ec_length] at this
    rw [Nat.zero_add, World.ownsRow.cellAt h.own (j * 47 + i) (by omega), evC_get xs j x hx i v hv]
theorem new_cells (w : World) (x : Evt) (t : TypeId) : ∀ j u, (ec x)[j]? = some u → (w.alloc (.cells (ec x).toArray t)).cell? ((⟨w.heap.size, 0, none⟩ : Addr).add j) = some u := by
  intro j u hu
  rw [Addr.add_mid, Nat.zero_add, World.cell?_alloc_at _ _ _ _ rfl]
  simpa using hu
theorem fill_one (y : Evt) (z : Array Value) (hz : z.size = 47) : Instr.fill (fun i => some (i * 47, 47)) z [(0, evV y)] = some (ec y).toArray := by
  have h := Great.fill_whole (s := 47) (by omega) [evV y] z (fun v hv => by simp at hv; subst hv; show (ec y).toArray.size = 47; rw [List.size_toArray, ec_length]) (by rw [hz]; rfl)
  have e : ([evV y].flatMap fun v => v.cells.toList) = ec y := by simp [evV, Value.cells]
  rw [e] at h
  exact h
theorem infoEvE : (Try.prog.info? 40).map (fun i => (i.zero.map (fun z => z.cells.size), i.size, i.bytes)) = some (some 47, 47, 128) := by kernel_rfl
theorem info_evE : ∃ i z, Try.prog.info? 40 = some i ∧ i.zero = some z ∧ z.cells.size = 47 ∧ i.size = 47 ∧ i.bytes = 128 := by
  have h := infoEvE
  cases e : Try.prog.info? 40 with
  | none => rw [e] at h; simp at h
  | some i =>
    rw [e] at h
    cases ez : i.zero with
    | none => rw [Option.map_some, ez] at h; simp at h
    | some z => rw [Option.map_some, ez] at h; simp at h; exact ⟨i, z, rfl, ez, h.1, h.2.1, h.2.2⟩
theorem build_evE {ops : Array Oper} {rest : List Oper} {o : Oper} {a : Act} {w : World} {Q : Exit → Act → World → Prop} (hg : o.guard = none) (s : Operand) (ho : o.op = .buildSlice 22 1 #[(0, s)]) (y : Evt) (hs : a.eval s = evV y)
    (h : wpList Try.prog ops Q rest (a.put o.dst (.slice (some ⟨w.heap.size, 0, none⟩) 1 1)) (w.alloc (.cells (ec y).toArray 40))) : wpList Try.prog ops Q (o :: rest) a w := by
  obtain ⟨i0, z0, hi, hz0, hzs, hz1, hz2⟩ := info_evE
  refine wpList_buildSlice hg 22 40 1 #[(0, s)] ho (ec y).toArray i0 z0 Try.underlying22 hi hz0 (by rw [hz1]; omega) (by rw [hz1]; omega) ?_ h
  rw [hz1]
  simp only [List.map_toArray, List.map_cons, List.map_nil, hs]
  exact fill_one y _ (by simp)
/-- One event appended. -/
theorem app_evE {ops : Array Oper} {rest : List Oper} {o : Oper} {a : Act} {Q : Exit → Act → World → Prop} (hgd : o.guard = none) (s x : Operand)
    (ho : o.op = .call { callee := .builtin .append, args := #[s, x], argTypes := #[22, 22] }) {w wr : World} (v : Value) (ls : List Evt) (y : Evt) (hs : a.eval s = v)
    (hx : a.eval x = .slice (some ⟨wr.heap.size, 0, none⟩) 1 1) (hm : Es 40 w wr v ls) (hl : ls.length ≤ 100000)
    (h : ∀ v' w1, Es 40 w w1 v' (ls ++ [y]) → (wr.alloc (.cells (ec y).toArray 40)).grownBy w1 v.ownBlock → (∀ k, v'.ownBlock = some k → v.ownBlock = some k ∨ wr.heap.size < k) → wpList Try.prog ops Q rest (a.put o.dst v') w1) :
    wpList Try.prog ops Q (o :: rest) a (wr.alloc (.cells (ec y).toArray 40)) := by
  obtain ⟨i0, z0, hi, hz0, hzs, hz1, hz2⟩ := info_evE
  obtain ⟨hown, hnx⟩ := hm
  refine wpList_append_own_at _ hgd s x 22 ho w.heap.size 40 i0 z0 47 128 Try.underlying22 hi hz0 hz1 hz2 hzs (by decide) v ls.length _ hs (hown.alloc _) ⟨wr.heap.size, 0, none⟩ 1 1 (ec y) hx (by rw [ec_length]) (new_cells _ _ _) (ec_one y) (by unfold maxLen; omega) (by omega) (by have := hnx.size; simp; omega) ?_
  intro v' w1 hown' hgrow _ hv'
  refine h v' w1 ⟨?_, ?_⟩ hgrow ?_
  · rw [List.length_append, List.length_singleton, evC_snoc]
    exact hown'
  · exact (bAl hnx).grown hgrow (by have := hnx.size; simp; omega) (fun k hk => (hown.lt k hk).1)
  · intro k hk
    rcases hv' with e | e
    · exact .inl (by rw [← e]; exact hk)
    · rw [e] at hk; simp at hk; exact .inr (by omega)
theorem infoEvR : (Try.prog.info? 37).map (fun i => (i.zero.map (fun z => z.cells.size), i.size, i.bytes)) = some (some 47, 47, 128) := by kernel_rfl
theorem info_evR : ∃ i z, Try.prog.info? 37 = some i ∧ i.zero = some z ∧ z.cells.size = 47 ∧ i.size = 47 ∧ i.bytes = 128 := by
  have h := infoEvR
  cases e : Try.prog.info? 37 with
  | none => rw [e] at h; simp at h
  | some i =>
    rw [e] at h
    cases ez : i.zero with
    | none => rw [Option.map_some, ez] at h; simp at h
    | some z => rw [Option.map_some, ez] at h; simp at h; exact ⟨i, z, rfl, ez, h.1, h.2.1, h.2.2⟩
theorem build_evR {ops : Array Oper} {rest : List Oper} {o : Oper} {a : Act} {w : World} {Q : Exit → Act → World → Prop} (hg : o.guard = none) (s : Operand) (ho : o.op = .buildSlice 28 1 #[(0, s)]) (y : Evt) (hs : a.eval s = evV y)
    (h : wpList Try.prog ops Q rest (a.put o.dst (.slice (some ⟨w.heap.size, 0, none⟩) 1 1)) (w.alloc (.cells (ec y).toArray 37))) : wpList Try.prog ops Q (o :: rest) a w := by
  obtain ⟨i0, z0, hi, hz0, hzs, hz1, hz2⟩ := info_evR
  refine wpList_buildSlice hg 28 37 1 #[(0, s)] ho (ec y).toArray i0 z0 Try.underlying28 hi hz0 (by rw [hz1]; omega) (by rw [hz1]; omega) ?_ h
  rw [hz1]
  simp only [List.map_toArray, List.map_cons, List.map_nil, hs]
  exact fill_one y _ (by simp)
/-- One event appended. -/
theorem app_evR {ops : Array Oper} {rest : List Oper} {o : Oper} {a : Act} {Q : Exit → Act → World → Prop} (hgd : o.guard = none) (s x : Operand)
    (ho : o.op = .call { callee := .builtin .append, args := #[s, x], argTypes := #[28, 28] }) {w wr : World} (v : Value) (ls : List Evt) (y : Evt) (hs : a.eval s = v)
    (hx : a.eval x = .slice (some ⟨wr.heap.size, 0, none⟩) 1 1) (hm : Es 37 w wr v ls) (hl : ls.length ≤ 100000)
    (h : ∀ v' w1, Es 37 w w1 v' (ls ++ [y]) → (wr.alloc (.cells (ec y).toArray 37)).grownBy w1 v.ownBlock → (∀ k, v'.ownBlock = some k → v.ownBlock = some k ∨ wr.heap.size < k) → wpList Try.prog ops Q rest (a.put o.dst v') w1) :
    wpList Try.prog ops Q (o :: rest) a (wr.alloc (.cells (ec y).toArray 37)) := by
  obtain ⟨i0, z0, hi, hz0, hzs, hz1, hz2⟩ := info_evR
  obtain ⟨hown, hnx⟩ := hm
  refine wpList_append_own_at _ hgd s x 28 ho w.heap.size 37 i0 z0 47 128 Try.underlying28 hi hz0 hz1 hz2 hzs (by decide) v ls.length _ hs (hown.alloc _) ⟨wr.heap.size, 0, none⟩ 1 1 (ec y) hx (by rw [ec_length]) (new_cells _ _ _) (ec_one y) (by unfold maxLen; omega) (by omega) (by have := hnx.size; simp; omega) ?_
  intro v' w1 hown' hgrow _ hv'
  refine h v' w1 ⟨?_, ?_⟩ hgrow ?_
  · rw [List.length_append, List.length_singleton, evC_snoc]
    exact hown'
  · exact (bAl hnx).grown hgrow (by have := hnx.size; simp; omega) (fun k hk => (hown.lt k hk).1)
  · intro k hk
    rcases hv' with e | e
    · exact .inl (by rw [← e]; exact hk)
    · rw [e] at hk; simp at hk; exact .inr (by omega)
set_option maxRecDepth 100000 in
set_option maxHeartbeats 4000000 in
/-- The document's events of events. -/
theorem refs9_any {w : World} {ao : Option Addr} {cap : Nat} {xs : List Evt} (h : Evs w ao xs) (hl : xs.length ≤ 100) :
    Calls Try.prog 9 #[.slice ao xs.length cap] w fun e w' => ∃ v, e = .returned v ∧ Es 37 w w' v xs := by
  have HA := hide h; have HLN := hide hl
  clear h
  go_enter Try.func9, Try.ntmps9
  go_wp2
  go_loopg [3, 8] xs.length (fun gk v i wr => ∃ k : Nat, gk + k = xs.length ∧ i = .int .i64 k ∧ Es 37 w wr v (xs.take k))
  case atStart => exact ⟨0, by omega, rfl, Es.nil _ _⟩
  case round =>
    obtain ⟨k, hk, rfl, hs⟩ := hrel
    have S := hide hs; have HK := hide hk
    clear hs hk
    by_cases hlt : k < xs.length
    · have hki : (k : Int) < (xs.length : Int) := by omega
      obtain ⟨x, hx⟩ : ∃ x, xs[k]? = some x := ⟨xs[k], by simp [hlt]⟩
      obtain ⟨b, off, rfl, hr⟩ := (HA.out.below S.out.below).get hx
      have R : Hid (wr.rangeAt b (off + k * 47) (ec x)) := hr
      have HT : Hid (xs.take (k + 1) = xs.take k ++ [x]) := by show _ = _; rw [List.take_add_one, hx]; rfl
      have hlk : (xs.take k).length ≤ 100000 := by simp; omega
      clear hr hx
      go_wp2_with (refine wpList_load_mid rfl 40 _ rfl b (off + k * 47) rfl (ec x) _ R.out Try.underlying40 rfl (info_evt x) ?_)
      rw [storing_new wr _ 40 (ec x) (by rw [ec_length]; rfl) (ec_one _)]
      obtain ⟨V, B2⟩ := copiedE wr x
      have HV := hide V
      replace S := hide (S.out.after B2)
      clear V B2
      generalize (wr.alloc (.cells #[.int .u8 0, .int .u64 0, .int .u8 0, .int .u8 0, .int .u8 0, .int .u8 0, .int .u8 0, .int .u8 0, .int .u8 0, .int .u8 0, .int .u8 0, .int .u8 0, .int .u8 0, .int .u8 0, .int .u8 0, .int .u8 0, .int .u8 0, .int .u8 0, .int .u8 0, .int .u8 0, .int .u8 0, .int .u8 0, .int .u8 0, .int .u8 0, .int .u8 0, .int .u8 0, .int .u8 0, .int .u8 0, .int .u8 0, .int .u8 0, .int .u8 0, .int .u8 0, .int .u8 0, .int .u8 0, .int .u8 0, .int .u8 0, .int .u8 0, .int .u8 0, .int .u64 0, .int .u64 0, .int .u64 0, .int .u64 0, .int .u64 0, .int .u64 0, .int .u64 0, .int .u64 0, .int .u32 0] 40)).setCells wr.heap.size 0 (ec x) = w4 at *
      generalize wr.heap.size = gx at *
      generalize xs.take k = ls at *
      go_wp2_with (first
        | refine wpList_load_mid rfl 40 _ rfl gx 0 rfl (ec x) _ HV.out.range Try.underlying40 rfl (info_evt x) ?_
        | refine build_evR rfl _ rfl x rfl ?_
        | (at_builtin; refine app_evR rfl _ _ rfl _ ls x rfl rfl S.out hlk ?_))
      intro v' w1 hs1 _ _
      have S1 := hide hs1
      clear hs1
      go_wp2
      go_roundg (xs.length - k - 1)
      case measure => have := HK.out; omega
      case rel => exact ⟨k + 1, by omega, by go_num, by rw [HT.out]; exact S1.out⟩
    · obtain rfl : k = xs.length := by have := HK.out; omega
      rw [List.take_length] at S
      go_wp2
      go_ret
      exact ⟨_, rfl, S.out⟩
end Go.Proofs.Ytajkdbpojeaflaa
