/- How stage orders its entries: the contract of inOrder's function literal over this translation. -/
import Derived.Test.YtnjijnphjiiceaaStgBack
import Derived.Test.YtnjijnphjiiceaaStgSort
import Derived.Deep.QuietTactic
import Derived.BigQuiet
import Derived.Sort.OwnSorted
namespace Go.Proofs.Ytnjijnphjiiceaa
set_option linter.unusedSimpArgs false
set_option linter.unusedVariables false
set_option linter.unusedSectionVars false
open Go.RowKit Go.Lib Go.Sort
attribute [local go_sem] setCell_drewN alloc_drewN

/-- An entry's cells. -/
def encE (x : Int × Int) : List Value := [.int .i64 x.1, .int .i64 x.2]
/-- Which stands ahead, as the sort asks. -/
def cfE (x y : Int × Int) : Int := if x.1 < y.1 then -1 else 1
theorem cfE_lt (x y : Int × Int) : ltOf cfE x y = decide (x.1 < y.1) := by
  unfold ltOf cfE
  by_cases h : x.1 < y.1 <;> simp [h]
theorem swoE : SWO (ltOf cfE) where
  irrefl x := by rw [cfE_lt]; simp
  trans x y z h1 h2 := by rw [cfE_lt] at *; simp at *; omega
  ntrans x y z h1 h2 := by rw [cfE_lt] at *; simp at *; omega
theorem grow_two (W : World) (o1 o2 : Obj) (n : Nat) : ((W.alloc o1).alloc o2).drewN n = grow (W.drewN n) (#[o1] ++ #[o2]) := by rw [alloc_eq_grow, alloc_eq_grow, grow_grow]; rfl
set_option maxHeartbeats 1000000 in
theorem cmp_any {W : World} {mx a : Nat} (cm : W.cell? ⟨mx, 0, none⟩ = some (.pointer (some ⟨a, 0, none⟩))) (c1 : W.cell? ⟨a, 1, none⟩ = some (.func (.func 8) #[] #[])) (x y : Int × Int) :
    Calls Try.prog 34 #[.agg #[.int .i64 x.1, .int .i64 x.2], .agg #[.int .i64 y.1, .int .i64 y.2], .pointer (some ⟨mx, 0, none⟩)] W fun e w' => e = .returned (.int .i64 (cfE x y)) ∧ ∃ q os', w' = grow (W.drewN q) os' := by
  obtain ⟨x1, x2⟩ := x
  obtain ⟨y1, y2⟩ := y
  simp only []
  have lm : mx < W.heap.size := by obtain ⟨cs, t, f, e⟩ := cells_of_cellS cm; exact (Array.getElem?_eq_some_iff.1 e).1
  have la : a < W.heap.size := by obtain ⟨cs, t, f, e⟩ := cells_of_cellS c1; exact (Array.getElem?_eq_some_iff.1 e).1
  have nm : mx ≠ W.heap.size := Nat.ne_of_lt lm
  have na : a ≠ W.heap.size := Nat.ne_of_lt la
  have nm1 : mx < W.heap.size + 1 := by omega
  have na1 : a < W.heap.size + 1 := by omega
  have nm2 : ¬ mx = W.heap.size + 1 := by omega
  have na2 : ¬ a = W.heap.size + 1 := by omega
  have HC : Hid (cfE (x1, x2) (y1, y2) = if x1 < y1 then -1 else 1) := rfl
  by_cases hlt : x1 < y1
  · have hd : decide (x1 < y1) = true := by simp [hlt]
    have HE : Hid (cfE (x1, x2) (y1, y2) = -1) := HC.out.trans (if_pos hlt)
    go_enter Try.func34, Try.ntmps34
    go_wp2
    go_quiet ((go_at_call 8; exact Calls.quiet_of_same (less_any _ _ _)))
    go_wp2
    go_ret
    exact ⟨ret_numS HE.out.symm, _, _, grow_two _ _ _ _⟩
  · have hd : decide (x1 < y1) = false := by simp; omega
    have HE : Hid (cfE (x1, x2) (y1, y2) = 1) := HC.out.trans (if_neg hlt)
    go_enter Try.func34, Try.ntmps34
    go_wp2
    go_quiet ((go_at_call 8; exact Calls.quiet_of_same (less_any _ _ _)))
    go_wp2
    go_ret
    exact ⟨ret_numS HE.out.symm, _, _, grow_two _ _ _ _⟩
/-- The cells of entries, one behind the other. -/
def eC (L : Kvs) : List Value := L.flatMap encE
theorem eC_nil : eC [] = [] := rfl
theorem eC_cons (x : Int × Int) (L : Kvs) : eC (x :: L) = .int .i64 x.1 :: .int .i64 x.2 :: eC L := rfl
theorem eC_append (A B : Kvs) : eC (A ++ B) = eC A ++ eC B := by simp [eC]
theorem eC_one (x : Int × Int) : eC [x] = [.int .i64 x.1, .int .i64 x.2] := rfl
theorem eC_length : ∀ L : Kvs, (eC L).length = L.length * 2
  | [] => rfl
  | x :: r => by rw [eC_cons]; simp only [List.length_cons, eC_length r]; omega
theorem eC_get : ∀ (L : Kvs) (j : Nat) (x : Int × Int), L[j]? = some x → (eC L)[j * 2]? = some (.int .i64 x.1) ∧ (eC L)[j * 2 + 1]? = some (.int .i64 x.2)
  | [], j, x, h => by simp at h
  | y :: r, 0, x, h => by simp at h; subst h; rw [eC_cons]; exact ⟨rfl, rfl⟩
  | y :: r, j + 1, x, h => by
    have ih := eC_get r j x (by simpa using h)
    rw [eC_cons, show (j + 1) * 2 = j * 2 + 1 + 1 by omega]
    exact ih
theorem eC_take : ∀ (L : Kvs) (n : Nat), (eC L).take (n * 2) = eC (L.take n)
  | [], n => by simp [eC]
  | x :: r, 0 => rfl
  | x :: r, n + 1 => by
    rw [eC_cons, show (n + 1) * 2 = n * 2 + 1 + 1 by omega, List.take_succ_cons, List.take_succ_cons, List.take_succ_cons, eC_cons, eC_take r n]
theorem eC_oneCell (L : Kvs) : ∀ u ∈ eC L, u.oneCell' = true := by
  intro u hu
  obtain ⟨x, _, hx⟩ := List.mem_flatMap.1 hu
  simp [encE] at hx
  rcases hx with rfl | rfl <;> rfl
theorem eC_flat (d : Array (Int × Int)) : (flatK encE 2 d).toList = eC d.toList := by
  apply List.ext_getElem?
  intro t
  by_cases ht : t < d.size * 2
  · have h1 : (flatK encE 2 d).toList[t]? = some (encE d[t / 2]!)[t % 2]! := by
      rw [Array.getElem?_toList, Array.getElem?_eq_getElem (by simpa using ht), ← getElem!_pos _ t (by simpa using ht), get_flatK _ _ _ _ ht]
    have hd : t / 2 < d.size := by omega
    obtain ⟨e1, e2⟩ := eC_get d.toList (t / 2) d[t / 2] (by rw [Array.getElem?_toList, Array.getElem?_eq_getElem hd])
    rw [h1, getElem!_pos d _ hd]
    rcases (show t % 2 = 0 ∨ t % 2 = 1 by omega) with h | h
    · rw [h]
      rw [show t / 2 * 2 = t by omega] at e1
      rw [e1]; rfl
    · rw [h]
      rw [show t / 2 * 2 + 1 = t by omega] at e2
      rw [e2]; rfl
  · rw [List.getElem?_eq_none (by simp; omega), List.getElem?_eq_none (by rw [eC_length]; simp; omega)]
/-- Entries, in a row of a call's own. -/
abbrev ERow (w : World) (v : Value) (L : Kvs) : Prop := w.ownsRow 0 64 2 v L.length (eC L)
theorem ERow.of {w w' : World} {v : Value} {L : Kvs} (h : ERow w v L) (hb : ∀ k, v.ownBlock = some k → w'.heap[k]? = w.heap[k]?) : ERow w' v L := by
  refine ⟨h.1, ?_⟩
  rcases h.2 with hn | ⟨g, cap, cur, rfl, hB, hg, r⟩
  · exact .inl hn
  · exact .inr ⟨g, cap, cur, rfl, hB, by rw [hb g rfl]; exact hg, r⟩
theorem isAggE (w : World) : (isAgg 64).run Try.prog w = .ok true w := Try.isAgg64 w
theorem sizeOfE (w : World) : (Go.sizeOf 64).run Try.prog w = .ok 2 w := Try.sizeOf64 w
theorem enters_cmp : ∀ args w, (callFunc 34 args).run Try.prog w = .ok (.enter 34 args) w := enters_of Try.func34 (by kernel_rfl) rfl
/-- The sort, at entries whose keys differ: they stand in order. -/
theorem sort_any {w : World} {g cap mx a : Nat} {got M : Kvs} (hrow : ERow w (.slice (some ⟨g, 0, none⟩) got.length cap) got) (hp : got.Perm M) (hM : Srt kyInt M) (cm : w.cell? ⟨mx, 0, none⟩ = some (.pointer (some ⟨a, 0, none⟩))) (c1 : w.cell? ⟨a, 1, none⟩ = some (.func (.func 8) #[] #[])) (hmg : mx ≠ g) (hag : a ≠ g) (hlen : got.length ≤ 1000000) :
    Calls Try.prog 33 #[.slice (some ⟨g, 0, none⟩) got.length cap, .func (.func 34) #[] #[.pointer (some ⟨mx, 0, none⟩)]] w fun e w' => e = .returned (.tuple #[]) ∧ ERow w' (.slice (some ⟨g, 0, none⟩) got.length cap) M ∧ w.grownBy w' (some g) := by
  have hr := hrow
  rcases hr.2 with ⟨e, _⟩ | ⟨g', cap', cur, e, hB, hg, hcap, hmax, hs, ht⟩
  · simp at e
  simp only [Value.slice.injEq, Option.some.injEq, Addr.mk.injEq, and_true, true_and] at e
  obtain ⟨rfl, rfl⟩ := e
  have hgl : g < w.heap.size := (Array.getElem?_eq_some_iff.1 hg).1
  have lm : mx < w.heap.size := by obtain ⟨cs, t, f, e⟩ := cells_of_cellS cm; exact (Array.getElem?_eq_some_iff.1 e).1
  have la : a < w.heap.size := by obtain ⟨cs, t, f, e⟩ := cells_of_cellS c1; exact (Array.getElem?_eq_some_iff.1 e).1
  have hH : HoldsK encE 2 w g 0 got.toArray := by
    intro j hj
    have hj' : j < got.length * 2 := by simpa using hj
    refine ⟨?_, World.ownsRow.frozenAt hrow _⟩
    rw [Nat.zero_add, World.ownsRow.cellAt hrow j hj', getElem!_pos _ j hj, ← eC_flat got.toArray, Array.getElem?_toList, Array.getElem?_eq_getElem hj]
    rfl
  have old : ∀ (m : Nat) (dk : Array (Int × Int)) (os : Array Obj) (k : Nat), k ≠ g → k < w.heap.size → (sortWorldK encE 2 w g 0 m dk os).heap[k]? = w.heap[k]? := fun m dk os k h1 h2 => by
    unfold sortWorldK putRowK
    rw [heap_grow_old _ _ (by simpa using h2)]
    simp [putRow, mapBlock, Sort.ahead, Array.getElem?_modify, Ne.symm h1]
  have hcmp : CmpLays Try.prog 34 #[.pointer (some ⟨mx, 0, none⟩)] encE 2 cfE g 0 got.toArray.size w := fun m os dk _ x y =>
    cmp_any ((World.cell?_of_block (w := w) (a := ⟨mx, 0, none⟩) (old m dk os mx hmg lm)).trans cm) ((World.cell?_of_block (w := w) (a := ⟨a, 1, none⟩) (old m dk os a hag la)).trans c1) x y
  have hcon := AnyQ.slices_SortFunc sortEnt 2 isAggE sizeOfE encE (fun _ => rfl) (fun x v hv => by simp [encE] at hv; rcases hv with rfl | rfl <;> rfl) cfE swoE 34 #[.pointer (some ⟨mx, 0, none⟩)] g 0 cap got.toArray w enters_cmp hcmp hH hgl (by simp; omega)
  have hcon2 : Calls Try.prog 33 #[.slice (some ⟨g, 0, none⟩) got.length cap, .func (.func 34) #[] #[.pointer (some ⟨mx, 0, none⟩)]] w fun e w' =>
      e = .returned (.tuple #[]) ∧ ∃ d' n os, PermIn 0 got.toArray.size got.toArray d' ∧ SortedIn (ltOf cfE) 0 got.toArray.size d' ∧ w' = sortWorldK encE 2 w g 0 n d' os := hcon
  refine hcon2.mono ?_
  rintro e w' ⟨rfl, d', n, os, ⟨p1, _, p3⟩, q, rfl⟩
  have hsz : d'.size = got.length := by simpa using p1
  have hperm : d'.toList.Perm got := by
    have e1 : d'.extract 0 got.toArray.size = d' := by rw [← p1]; exact Array.extract_size
    have e2 : got.toArray.extract 0 got.toArray.size = got.toArray := Array.extract_size
    rw [e1, e2] at p3
    exact p3
  have hnd : d'.toList.Pairwise fun x y => x.1 ≠ y.1 := ((hperm.trans hp).symm.pairwise_iff (fun {a b} (h : a.1 ≠ b.1) => h.symm)).1 (hM.nodup kyInt)
  have hsrt : Srt kyInt d'.toList := by
    unfold Srt
    rw [List.pairwise_iff_getElem] at hnd ⊢
    intro i j hi hj hij
    have hne := hnd i j hi hj hij
    have hi' : i < d'.size := by simpa using hi
    have hj' : j < d'.size := by simpa using hj
    have h2 := q i j (Nat.zero_le _) hij (by rw [← p1]; exact hj')
    rw [cfE_lt, getElem!_pos d' i hi', getElem!_pos d' j hj'] at h2
    simp only [Array.getElem_toList] at hne ⊢
    simp [kyInt] at h2 ⊢
    omega
  have hd : d'.toList = M := Srt.perm kyInt hsrt hM (hperm.trans hp)
  refine ⟨rfl, ?_, ?_⟩
  · have hl : M.length = got.length := hp.length_eq.symm
    have hcur : got.length * 2 ≤ cur.size := by rw [hs]; omega
    refine ⟨by rw [eC_length], .inr ⟨g, cap, putCells id 0 (flatK encE 2 d') cur, by rw [hl], hB, ?_, by rw [hl]; exact hcap, hmax, by simp [putCells, hs], ?_⟩⟩
    · unfold sortWorldK putRowK
      rw [heap_grow_old _ _ (by simpa using hgl)]
      simp [putRow, mapBlock, Sort.ahead, Array.getElem?_modify, hg, onCells]
    · rw [← hd, ← eC_flat]
      apply List.ext_getElem?
      intro t
      have hfl : (flatK encE 2 d').size = got.length * 2 := by simp [hsz]
      by_cases ht : t < got.length * 2
      · rw [List.getElem?_take_of_lt (by simp [hsz]; omega), Array.getElem?_toList, Array.getElem?_toList]
        have h1 : t < cur.size := by omega
        simp only [putCells, Array.getElem?_mapIdx, Array.getElem?_eq_getElem h1, Option.map_some, Nat.zero_le, true_and, Nat.zero_add, Nat.sub_zero, hfl, ht, if_true]
        rw [getElem!_pos _ t (by rw [hfl]; exact ht), Array.getElem?_eq_getElem (by rw [hfl]; exact ht)]
        rfl
      · rw [List.getElem?_take_eq_none (by simp [hsz]; omega), List.getElem?_eq_none (by simp [hsz]; omega)]
  · refine ⟨rfl, rfl, rfl, by simp [sortWorldK, putRowK], fun k hk hne => old _ _ _ k (fun e => hne (by rw [e])) hk⟩
end Go.Proofs.Ytnjijnphjiiceaa
