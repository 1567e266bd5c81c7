/- How stage orders its entries: the contract of inOrder's function literal over this translation. -/
import Derived.Test.YtncnilplmklccaaBkBack
import Derived.Test.YtncnilplmklccaaBkSort
import Derived.Deep.RegionHeld3
import Derived.Sort.OwnSorted
namespace Go.Proofs.Ytncnilplmklccaa
set_option linter.unusedSimpArgs false
set_option linter.unusedVariables false
set_option linter.unusedSectionVars false
open Go.RowKit Go.Lib Go.Sort
attribute [local go_sem] setCell_drewN alloc_drewN

/-- A number there is. -/
abbrev someNm : Inhabited Nm := ⟨⟨0, In.zero⟩⟩
/-- An entry's cells. -/
def encE (x : Kk × Nm) : List Value := [.int .u8 x.1.1, .int .u8 x.1.2, .int .u64 (lm x.2.1 0), .int .u64 (lm x.2.1 1), .int .u64 (lm x.2.1 2), .int .u64 (lm x.2.1 3)]
/-- Which stands ahead, as the sort asks. -/
def cfE (x y : Kk × Nm) : Int := if kyKey.lt x.1 y.1 = true then -1 else 1
theorem cfE_lt (x y : Kk × Nm) : ltOf cfE x y = kyKey.lt x.1 y.1 := by
  unfold ltOf cfE
  by_cases h : kyKey.lt x.1 y.1 = true <;> simp [h]
theorem swoE : SWO (ltOf cfE) where
  irrefl x := by rw [cfE_lt]; exact kyKey.irr _
  trans x y z h1 h2 := by rw [cfE_lt] at *; exact kyKey.tr h1 h2
  ntrans x y z h1 h2 := by rw [cfE_lt] at *; simp [kyKey] at *; omega
theorem grow_two (W : World) (o1 o2 : Obj) (n : Nat) : ((W.alloc o1).alloc o2).drewN n = grow (W.drewN n) (#[o1] ++ #[o2]) := by rw [alloc_eq_grow, alloc_eq_grow, grow_grow]; rfl
theorem grow_four (W : World) (o1 o2 o3 o4 : Obj) : ((((W.alloc o1).alloc o2).drew.alloc o3).alloc o4) = grow (W.drewN 1) ((#[o1] ++ #[o2]) ++ (#[o3] ++ #[o4])) := by rw [show ((W.alloc o1).alloc o2).drew = ((W.alloc o1).alloc o2).drewN 1 from rfl, grow_two, alloc_eq_grow, alloc_eq_grow, grow_grow, grow_grow]
set_option maxRecDepth 100000 in
set_option maxHeartbeats 2000000 in
theorem ecmp_any {W : World} {mx a : Nat} (cm : W.cell? ⟨mx, 0, none⟩ = some (.pointer (some ⟨a, 0, none⟩))) (c1 : W.cell? ⟨a, 1, none⟩ = some (.func (.func 48) #[] #[])) (x y : Kk × Nm) :
    Calls Try.prog 78 #[.agg #[.int .u8 x.1.1, .int .u8 x.1.2, .int .u64 (lm x.2.1 0), .int .u64 (lm x.2.1 1), .int .u64 (lm x.2.1 2), .int .u64 (lm x.2.1 3)], .agg #[.int .u8 y.1.1, .int .u8 y.1.2, .int .u64 (lm y.2.1 0), .int .u64 (lm y.2.1 1), .int .u64 (lm y.2.1 2), .int .u64 (lm y.2.1 3)], .pointer (some ⟨mx, 0, none⟩)] W fun e w' => e = .returned (.int .i64 (cfE x y)) ∧ ∃ q os', w' = grow (W.drewN q) os' := by
  obtain ⟨W2, hW2⟩ : ∃ W2, (W.alloc (.cells #[.int .u8 x.1.1, .int .u8 x.1.2, .int .u64 (lm x.2.1 0), .int .u64 (lm x.2.1 1), .int .u64 (lm x.2.1 2), .int .u64 (lm x.2.1 3)] 128)).alloc (.cells #[.int .u8 y.1.1, .int .u8 y.1.2, .int .u64 (lm y.2.1 0), .int .u64 (lm y.2.1 1), .int .u64 (lm y.2.1 2), .int .u64 (lm y.2.1 3)] 128) = W2 := ⟨_, rfl⟩
  have hb : Below W.heap.size W W2 := by rw [← hW2]; exact bAl (bAl (bMe W))
  have lm' : mx < W.heap.size := by obtain ⟨cs, t, f, e⟩ := cells_of_cellS cm; exact (Array.getElem?_eq_some_iff.1 e).1
  have la : a < W.heap.size := by obtain ⟨cs, t, f, e⟩ := cells_of_cellS c1; exact (Array.getElem?_eq_some_iff.1 e).1
  have dm : W2.cell? ⟨mx, 0, none⟩ = some (.pointer (some ⟨a, 0, none⟩)) := ((bcell hb).1 _ _ lm').trans cm
  have d1 : W2.cell? ⟨a, 1, none⟩ = some (.func (.func 48) #[] #[]) := ((bcell hb).1 _ _ la).trans c1
  have hz : W2.heap.size = W.heap.size + 2 := by rw [← hW2]; simp
  obtain ⟨g, hg⟩ : ∃ g, W.heap.size = g := ⟨_, rfl⟩
  have x0 : W2.cell? ⟨g, 0, none⟩ = some (.int .u8 x.1.1) := by rw [← hW2, ← hg]; simp [go_sem]
  have x1 : W2.cell? ⟨g, 1, none⟩ = some (.int .u8 x.1.2) := by rw [← hW2, ← hg]; simp [go_sem]
  have y0 : W2.cell? ⟨g + 1, 0, none⟩ = some (.int .u8 y.1.1) := by rw [← hW2, ← hg]; simp [go_sem]
  have y1 : W2.cell? ⟨g + 1, 1, none⟩ = some (.int .u8 y.1.2) := by rw [← hW2, ← hg]; simp [go_sem]
  have lm2 : mx < W2.heap.size := by omega
  have la2 : a < W2.heap.size := by omega
  have lg2 : g < W2.heap.size := by omega
  have lg3 : g + 1 < W2.heap.size := by omega
  have HC : Hid (cfE x y = if kyKey.lt x.1 y.1 = true then -1 else 1) := rfl
  have HG4 : Hid (∀ o3 o4, (W2.drew.alloc o3).alloc o4 = grow (W.drewN 1) ((#[.cells #[.int .u8 x.1.1, .int .u8 x.1.2, .int .u64 (lm x.2.1 0), .int .u64 (lm x.2.1 1), .int .u64 (lm x.2.1 2), .int .u64 (lm x.2.1 3)] 128] ++ #[.cells #[.int .u8 y.1.1, .int .u8 y.1.2, .int .u64 (lm y.2.1 0), .int .u64 (lm y.2.1 1), .int .u64 (lm y.2.1 2), .int .u64 (lm y.2.1 3)] 128]) ++ (#[o3] ++ #[o4]))) := fun o3 o4 => by rw [← hW2]; exact grow_four _ _ _ _ _
  have HA := hide (ahead_any x.1 y.1)
  have HW2 := hide hW2
  clear hb cm c1 lm' la hz
  cases hlt : kyKey.lt x.1 y.1
  all_goals
    rw [hlt] at HC HA
    go_enter Try.func78, Try.ntmps78
    go_wp2
    try rw [hW2]
    try rw [hg]
    clear hW2 hg
    go_region_held3 (fun w' => w'.cell? ⟨mx, 0, none⟩ = some (.pointer (some ⟨a, 0, none⟩)) ∧ w'.cell? ⟨a, 1, none⟩ = some (.func (.func 48) #[] #[]) ∧ w'.cell? ⟨g, 0, none⟩ = some (.int .u8 x.1.1) ∧ w'.cell? ⟨g, 1, none⟩ = some (.int .u8 x.1.2) ∧ w'.cell? ⟨g + 1, 0, none⟩ = some (.int .u8 y.1.1) ∧ w'.cell? ⟨g + 1, 1, none⟩ = some (.int .u8 y.1.2)) (first | exact ⟨dm, d1, x0, x1, y0, y1⟩ | (simp [go_sem, World.cell?_alloc_lt, dm, d1, x0, x1, y0, y1, lm2, la2, lg2, lg3]; done)) ((go_at_call 48; refine (HA.out _).mono ?_; rintro e w' ⟨rfl, o1, o2, rfl⟩))
    go_wp2
    go_ret
    exact ⟨ret_numS (HC.out.trans (by simp)).symm, _, _, HG4.out o1 o2⟩
/-- The cells of entries, one behind the other. -/
def eC (L : Kvs) : List Value := L.flatMap encE
theorem eC_nil : eC [] = [] := rfl
theorem eC_cons (x : Kk × Nm) (L : Kvs) : eC (x :: L) = .int .u8 x.1.1 :: .int .u8 x.1.2 :: .int .u64 (lm x.2.1 0) :: .int .u64 (lm x.2.1 1) :: .int .u64 (lm x.2.1 2) :: .int .u64 (lm x.2.1 3) :: eC L := rfl
theorem eC_append (A B : Kvs) : eC (A ++ B) = eC A ++ eC B := by simp [eC]
theorem eC_one (x : Kk × Nm) : eC [x] = [.int .u8 x.1.1, .int .u8 x.1.2, .int .u64 (lm x.2.1 0), .int .u64 (lm x.2.1 1), .int .u64 (lm x.2.1 2), .int .u64 (lm x.2.1 3)] := rfl
theorem eC_length : ∀ L : Kvs, (eC L).length = L.length * 6
  | [] => rfl
  | x :: r => by rw [eC_cons]; simp only [List.length_cons, eC_length r]; omega
theorem eC_get : ∀ (L : Kvs) (j : Nat) (x : Kk × Nm), L[j]? = some x → (eC L)[j * 6]? = some (.int .u8 x.1.1) ∧ (eC L)[j * 6 + 1]? = some (.int .u8 x.1.2) ∧ (eC L)[j * 6 + 2]? = some (.int .u64 (lm x.2.1 0)) ∧ (eC L)[j * 6 + 3]? = some (.int .u64 (lm x.2.1 1)) ∧ (eC L)[j * 6 + 4]? = some (.int .u64 (lm x.2.1 2)) ∧ (eC L)[j * 6 + 5]? = some (.int .u64 (lm x.2.1 3))
  | [], j, x, h => by simp at h
  | y :: r, 0, x, h => by simp at h; subst h; rw [eC_cons]; exact ⟨rfl, rfl, rfl, rfl, rfl, rfl⟩
  | y :: r, j + 1, x, h => by
    have ih := eC_get r j x (by simpa using h)
    rw [eC_cons, show (j + 1) * 6 = j * 6 + 1 + 1 + 1 + 1 + 1 + 1 by omega]
    exact ih
theorem eC_take : ∀ (L : Kvs) (n : Nat), (eC L).take (n * 6) = eC (L.take n)
  | [], n => by simp [eC]
  | x :: r, 0 => rfl
  | x :: r, n + 1 => by
    rw [eC_cons, show (n + 1) * 6 = n * 6 + 1 + 1 + 1 + 1 + 1 + 1 by omega, List.take_succ_cons, List.take_succ_cons, List.take_succ_cons, List.take_succ_cons, List.take_succ_cons, List.take_succ_cons, List.take_succ_cons, eC_cons, eC_take r n]
theorem eC_oneCell (L : Kvs) : ∀ u ∈ eC L, u.oneCell' = true := by
  intro u hu
  obtain ⟨x, _, hx⟩ := List.mem_flatMap.1 hu
  simp [encE] at hx
  rcases hx with rfl | rfl | rfl | rfl | rfl | rfl <;> rfl
theorem eC_flat [Inhabited Nm] (d : Array (Kk × Nm)) : (flatK encE 6 d).toList = eC d.toList := by
  apply List.ext_getElem?
  intro t
  by_cases ht : t < d.size * 6
  · have h1 : (flatK encE 6 d).toList[t]? = some (encE d[t / 6]!)[t % 6]! := by
      rw [Array.getElem?_toList, Array.getElem?_eq_getElem (by simpa using ht), ← getElem!_pos _ t (by simpa using ht), get_flatK _ _ _ _ ht]
    have hd : t / 6 < d.size := by omega
    obtain ⟨e0, e1, e2, e3, e4, e5⟩ := eC_get d.toList (t / 6) d[t / 6] (by rw [Array.getElem?_toList, Array.getElem?_eq_getElem hd])
    rw [h1, getElem!_pos d _ hd]
    rcases (show t % 6 = 0 ∨ t % 6 = 1 ∨ t % 6 = 2 ∨ t % 6 = 3 ∨ t % 6 = 4 ∨ t % 6 = 5 by omega) with h | h | h | h | h | h
    · rw [h]
      rw [show t / 6 * 6 = t by omega] at e0
      rw [e0]; rfl
    · rw [h]
      rw [show t / 6 * 6 + 1 = t by omega] at e1
      rw [e1]; rfl
    · rw [h]
      rw [show t / 6 * 6 + 2 = t by omega] at e2
      rw [e2]; rfl
    · rw [h]
      rw [show t / 6 * 6 + 3 = t by omega] at e3
      rw [e3]; rfl
    · rw [h]
      rw [show t / 6 * 6 + 4 = t by omega] at e4
      rw [e4]; rfl
    · rw [h]
      rw [show t / 6 * 6 + 5 = t by omega] at e5
      rw [e5]; rfl
  · rw [List.getElem?_eq_none (by simp; omega), List.getElem?_eq_none (by rw [eC_length]; simp; omega)]
/-- Entries, in a row of a call's own. -/
abbrev ERow (w : World) (v : Value) (L : Kvs) : Prop := w.ownsRow 0 128 6 v L.length (eC L)
theorem ERow.of {w w' : World} {v : Value} {L : Kvs} (h : ERow w v L) (hb : ∀ k, v.ownBlock = some k → w'.heap[k]? = w.heap[k]?) : ERow w' v L := by
  refine ⟨h.1, ?_⟩
  rcases h.2 with hn | ⟨g, cap, cur, rfl, hB, hg, r⟩
  · exact .inl hn
  · exact .inr ⟨g, cap, cur, rfl, hB, by rw [hb g rfl]; exact hg, r⟩
theorem isAggE (w : World) : (isAgg 128).run Try.prog w = .ok true w := Try.isAgg128 w
theorem sizeOfE (w : World) : (Go.sizeOf 128).run Try.prog w = .ok 6 w := Try.sizeOf128 w
theorem enters_cmp : ∀ args w, (callFunc 78 args).run Try.prog w = .ok (.enter 78 args) w := enters_of Try.func78 (by kernel_rfl) rfl
/-- The sort, at entries whose keys differ: they stand in order. -/
theorem sort_any {w : World} {g cap mx a : Nat} {got M : Kvs} (hrow : ERow w (.slice (some ⟨g, 0, none⟩) got.length cap) got) (hp : got.Perm M) (hM : Srt kyKey M) (cm : w.cell? ⟨mx, 0, none⟩ = some (.pointer (some ⟨a, 0, none⟩))) (c1 : w.cell? ⟨a, 1, none⟩ = some (.func (.func 48) #[] #[])) (hmg : mx ≠ g) (hag : a ≠ g) (hlen : got.length ≤ 1000000) :
    Calls Try.prog 77 #[.slice (some ⟨g, 0, none⟩) got.length cap, .func (.func 78) #[] #[.pointer (some ⟨mx, 0, none⟩)]] w fun e w' => e = .returned (.tuple #[]) ∧ ERow w' (.slice (some ⟨g, 0, none⟩) got.length cap) M ∧ w.grownBy w' (some g) := by
  haveI : Inhabited Nm := someNm
  have hr := hrow
  rcases hr.2 with ⟨e, _⟩ | ⟨g', cap', cur, e, hB, hg, hcap, hmax, hs, ht⟩
  · simp at e
  simp only [Value.slice.injEq, Option.some.injEq, Addr.mk.injEq, and_true, true_and] at e
  obtain ⟨rfl, rfl⟩ := e
  have hgl : g < w.heap.size := (Array.getElem?_eq_some_iff.1 hg).1
  have lm : mx < w.heap.size := by obtain ⟨cs, t, f, e⟩ := cells_of_cellS cm; exact (Array.getElem?_eq_some_iff.1 e).1
  have la : a < w.heap.size := by obtain ⟨cs, t, f, e⟩ := cells_of_cellS c1; exact (Array.getElem?_eq_some_iff.1 e).1
  have hH : HoldsK encE 6 w g 0 got.toArray := by
    intro j hj
    have hj' : j < got.length * 6 := by simpa using hj
    refine ⟨?_, World.ownsRow.frozenAt hrow _⟩
    rw [Nat.zero_add, World.ownsRow.cellAt hrow j hj', getElem!_pos _ j hj, ← eC_flat got.toArray, Array.getElem?_toList, Array.getElem?_eq_getElem hj]
    rfl
  have old : ∀ (m : Nat) (dk : Array (Kk × Nm)) (os : Array Obj) (k : Nat), k ≠ g → k < w.heap.size → (sortWorldK encE 6 w g 0 m dk os).heap[k]? = w.heap[k]? := fun m dk os k h1 h2 => by
    unfold sortWorldK putRowK
    rw [heap_grow_old _ _ (by simpa using h2)]
    simp [putRow, mapBlock, Sort.ahead, Array.getElem?_modify, Ne.symm h1]
  have hcmp : CmpLays Try.prog 78 #[.pointer (some ⟨mx, 0, none⟩)] encE 6 cfE g 0 got.toArray.size w := fun m os dk _ x y =>
    ecmp_any ((World.cell?_of_block (w := w) (a := ⟨mx, 0, none⟩) (old m dk os mx hmg lm)).trans cm) ((World.cell?_of_block (w := w) (a := ⟨a, 1, none⟩) (old m dk os a hag la)).trans c1) x y
  have hcon := AnyQ.slices_SortFunc sortEnt 6 isAggE sizeOfE encE (fun _ => rfl) (fun x v hv => by simp [encE] at hv; rcases hv with rfl | rfl | rfl | rfl | rfl | rfl <;> rfl) cfE swoE 78 #[.pointer (some ⟨mx, 0, none⟩)] g 0 cap got.toArray w enters_cmp hcmp hH hgl (by simp; omega)
  have hcon2 : Calls Try.prog 77 #[.slice (some ⟨g, 0, none⟩) got.length cap, .func (.func 78) #[] #[.pointer (some ⟨mx, 0, none⟩)]] w fun e w' =>
      e = .returned (.tuple #[]) ∧ ∃ d' n os, PermIn 0 got.toArray.size got.toArray d' ∧ SortedIn (ltOf cfE) 0 got.toArray.size d' ∧ w' = sortWorldK encE 6 w g 0 n d' os := hcon
  refine hcon2.mono ?_
  rintro e w' ⟨rfl, d', n, os, ⟨p1, _, p3⟩, q, rfl⟩
  have hsz : d'.size = got.length := by simpa using p1
  have hperm : d'.toList.Perm got := by
    have e1 : d'.extract 0 got.toArray.size = d' := by rw [← p1]; exact Array.extract_size
    have e2 : got.toArray.extract 0 got.toArray.size = got.toArray := Array.extract_size
    rw [e1, e2] at p3
    exact p3
  have hnd : d'.toList.Pairwise fun x y => x.1 ≠ y.1 := ((hperm.trans hp).symm.pairwise_iff (fun {a b} (h : a.1 ≠ b.1) => h.symm)).1 (hM.nodup kyKey)
  have hsrt : Srt kyKey d'.toList := by
    unfold Srt
    rw [List.pairwise_iff_getElem] at hnd ⊢
    intro i j hi hj hij
    have hne := hnd i j hi hj hij
    have hi' : i < d'.size := by simpa using hi
    have hj' : j < d'.size := by simpa using hj
    have h2 := q i j (Nat.zero_le _) hij (by rw [← p1]; exact hj')
    rw [cfE_lt, getElem!_pos d' i hi', getElem!_pos d' j hj'] at h2
    simp only [Array.getElem_toList] at hne ⊢
    cases h3 : kyKey.lt d'[i].1 d'[j].1 with
    | true => rfl
    | false => exact absurd (kyKey.tri h3 (by simpa using h2)) hne
  have hd : d'.toList = M := Srt.perm kyKey hsrt hM (hperm.trans hp)
  refine ⟨rfl, ?_, ?_⟩
  · have hl : M.length = got.length := hp.length_eq.symm
    have hcur : got.length * 6 ≤ cur.size := by rw [hs]; omega
    refine ⟨by rw [eC_length], .inr ⟨g, cap, putCells id 0 (flatK encE 6 d') cur, by rw [hl], hB, ?_, by rw [hl]; exact hcap, hmax, by simp [putCells, hs], ?_⟩⟩
    · unfold sortWorldK putRowK
      rw [heap_grow_old _ _ (by simpa using hgl)]
      simp [putRow, mapBlock, Sort.ahead, Array.getElem?_modify, hg, onCells]
    · rw [← hd, ← eC_flat]
      apply List.ext_getElem?
      intro t
      have hfl : (flatK encE 6 d').size = got.length * 6 := by simp [hsz]
      by_cases ht : t < got.length * 6
      · rw [List.getElem?_take_of_lt (by simp [hsz]; omega), Array.getElem?_toList, Array.getElem?_toList]
        have h1 : t < cur.size := by omega
        simp only [putCells, Array.getElem?_mapIdx, Array.getElem?_eq_getElem h1, Option.map_some, Nat.zero_le, true_and, Nat.zero_add, Nat.sub_zero, hfl, ht, if_true]
        rw [getElem!_pos _ t (by rw [hfl]; exact ht), Array.getElem?_eq_getElem (by rw [hfl]; exact ht)]
        rfl
      · rw [List.getElem?_take_eq_none (by simp [hsz]; omega), List.getElem?_eq_none (by simp [hsz]; omega)]
  · refine ⟨rfl, rfl, rfl, by simp [sortWorldK, putRowK], fun k hk hne => old _ _ _ k (fun e => hne (by rw [e])) hk⟩
end Go.Proofs.Ytncnilplmklccaa
