/- Contracts of a tree's Depth, Len, room, Leaf, and of New, over this translation. -/
import Derived.Test.YtlkmebimgpigjaaDoorTreeMem
namespace Go.Proofs.YtlkmebimgpigjaaDoor
open Go.RowKit Go.Lib
attribute [local go_sem] setCell_drewN alloc_drewN

theorem ret_numT {k : IntKind} {a b : Int} (h : a = b) : Ending.returned (.int k a) = .returned (.int k b) := by rw [h]
theorem depth_any {w : World} {g d : Nat} {S : Nat → Prop} {M : Nat → List Hs} (h : Rw w g S d M) :
    Calls Tryd.prog 10 #[.pointer (some ⟨g, 0, none⟩)] w fun e w' => e = .returned (.int .i64 d) ∧ w' = w := by
  have c0 := h.c0
  clear h
  go_enter Tryd.func10, Tryd.ntmps10
  go_wp2
  go_ret
  exact ⟨rfl, rfl⟩
theorem depth_nil {w : World} :
    Calls Tryd.prog 10 #[.pointer none] w fun e w' => e = .returned (.int .i64 0) ∧ w' = w := by
  go_enter Tryd.func10, Tryd.ntmps10
  go_wp2
  go_ret
  exact ⟨rfl, rfl⟩
theorem len_any {w : World} {g d : Nat} {S : Nat → Prop} {M : Nat → List Hs} (h : Rw w g S d M) (hl : (M 0).length ≤ 1000000) :
    Calls Tryd.prog 18 #[.pointer (some ⟨g, 0, none⟩)] w fun e w' => e = .returned (.int .u64 (M 0).length) ∧ w' = w := by
  obtain ⟨v, hc, hr, _⟩ := h.row (k := 0) (by omega)
  obtain ⟨ao, cap, rfl, _, _, _, _⟩ := hr.form
  clear h hr
  have hli : ((M 0).length : Int) ≤ 1000000 := by omega
  generalize (M 0).length = n at *
  have hc1 : w.cell? ⟨g, 1, none⟩ = some (.slice ao n cap) := hc
  clear hc
  go_enter Tryd.func18, Tryd.ntmps18
  go_wp2
  go_ret
  exact ⟨rfl, rfl⟩
theorem len_nil {w : World} :
    Calls Tryd.prog 18 #[.pointer none] w fun e w' => e = .returned (.int .u64 0) ∧ w' = w := by
  go_enter Tryd.func18, Tryd.ntmps18
  go_wp2
  go_ret
  exact ⟨rfl, rfl⟩
/-- So many places there are, as a program reckons it. -/
theorem wrap_pow (m : Nat) (hm : m ≤ 32) : IntKind.u64.wrap ((2 : Int) ^ m) = ((2 ^ m : Nat) : Int) := by
  have h2 : 2 ^ m ≤ 2 ^ 32 := Nat.pow_le_pow_right (by omega) hm
  have e : ((2 : Int) ^ m) = ((2 ^ m : Nat) : Int) := by simp
  rw [e, IntKind.wrap_u64]
  generalize 2 ^ m = p at *
  omega
theorem shr_any (x m : Nat) (hm : m ≤ 32) : Op.shift .shr .u64 (x : Int) .i64 (m : Int) = pure (.int .u64 ((x / 2 ^ m : Nat) : Int)) := by
  rw [shift_shr_any _ _ _ _ (by omega)]
  have h1 : min ((m : Int)).toNat IntKind.u64.bits = m := by simp [IntKind.bits]; omega
  rw [h1]
  simp
theorem room_any {w : World} {g d : Nat} {S : Nat → Prop} {M : Nat → List Hs} (h : Rw w g S d M) (hd : d ≤ 32) (k : Nat) (hk : k ≤ d) :
    Calls Tryd.prog 24 #[.pointer (some ⟨g, 0, none⟩), .int .i64 k] w fun e w' => e = .returned (.int .u64 ((2 ^ (d - k) : Nat) : Int)) ∧ w' = w := by
  have c0 := h.c0
  clear h
  have HP : Hid (IntKind.u64.wrap ((2 : Int) ^ (d - k)) = ((2 ^ (d - k) : Nat) : Int)) := wrap_pow (d - k) (by omega)
  have hm : ((d - k : Nat) : Int) ≤ 32 := by omega
  have hsub : (d : Int) - (k : Int) = ((d - k : Nat) : Int) := by omega
  have hsub2 : IntKind.i64.wrap ((d : Int) - (k : Int)) = ((d - k : Nat) : Int) := by rw [IntKind.wrap_i64]; omega
  generalize ((2 ^ (d - k) : Nat) : Int) = p at *
  generalize d - k = m at *
  go_enter Tryd.func24, Tryd.ntmps24
  go_wp2
  go_ret
  exact ⟨ret_numT HP.out, rfl⟩
theorem new_out {w : World} (x : Int) (h : x < 0 ∨ 32 < x) :
    Calls Tryd.prog 8 #[.int .i64 x] w fun e w' => e = .returned (.pointer none) ∧ w' = w := by
  by_cases h0 : x < 0
  · go_enter Tryd.func8, Tryd.ntmps8
    go_wp2
    go_ret
    exact ⟨rfl, rfl⟩
  · have h1 : 32 < x := by omega
    go_enter Tryd.func8, Tryd.ntmps8
    go_wp2
    go_ret
    exact ⟨rfl, rfl⟩
/-- The cells of a tree without leaves. -/
def newC (d : Nat) : List Value := .int .i64 d :: List.replicate 33 (.slice none 0 0)
theorem newC_get (d k : Nat) (hk : k < 33) : (newC d)[k + 1]? = some (.slice none 0 0) := by
  unfold newC
  rw [List.getElem?_cons_succ, List.getElem?_replicate, if_pos hk]
theorem new_box (w : World) (d : Nat) (t : TypeId) {g : Nat} (hg : w.heap.size = g) : Rw (w.alloc (.cells (newC d).toArray t)) g (fun b => b = g) d (fun _ => []) := by
  subst hg
  refine ⟨by simp, rfl, fun k hk => by subst hk; simp, fun o => World.frozen?_alloc_at _ _ _ _ rfl, by rw [World.cell?_alloc_at _ _ _ _ rfl]; simp [newC], fun _ => .slice none 0 0, fun k hk => ⟨?_, World.ownsRow_nil _ _ _ _, fun b hb => by simp [Value.ownBlock] at hb⟩, fun j k b hj hk h1 h2 => by simp [Value.ownBlock] at h1⟩
  rw [World.cell?_alloc_at _ _ _ _ rfl]
  simpa using newC_get d k hk
theorem Tr.new {w : World} {g d : Nat} (hd : d ≤ 32) (h : Rw w g (fun b => b = g) d (fun _ => [])) : Tr w g (fun b => b = g) d [] :=
  ⟨hd, by simp, by simp, fun f hf => by simp at hf, h.congr fun k _ => (lv_nil k).symm⟩
set_option maxHeartbeats 4000000 in
theorem tnew_any {w : World} (d : Nat) (hd : d ≤ 32) :
    Calls Tryd.prog 8 #[.int .i64 d] w fun e w' => e = .returned (.pointer (some ⟨w.heap.size, 0, none⟩)) ∧ Rw w' w.heap.size (fun b => b = w.heap.size) d (fun _ => []) ∧ Below w.heap.size w w' := by
  have hdi : (d : Int) ≤ 32 := by omega
  have R := hide (new_box w d 54 rfl)
  have B := hide (bAl (o := .cells (newC d).toArray 54) (bMe w))
  have e : (newC d).toArray = #[.int .i64 d, .slice none 0 0, .slice none 0 0, .slice none 0 0, .slice none 0 0, .slice none 0 0, .slice none 0 0, .slice none 0 0, .slice none 0 0, .slice none 0 0, .slice none 0 0, .slice none 0 0, .slice none 0 0, .slice none 0 0, .slice none 0 0, .slice none 0 0, .slice none 0 0, .slice none 0 0, .slice none 0 0, .slice none 0 0, .slice none 0 0, .slice none 0 0, .slice none 0 0, .slice none 0 0, .slice none 0 0, .slice none 0 0, .slice none 0 0, .slice none 0 0, .slice none 0 0, .slice none 0 0, .slice none 0 0, .slice none 0 0, .slice none 0 0, .slice none 0 0] := rfl
  rw [e] at R B
  clear e
  go_enter Tryd.func8, Tryd.ntmps8
  go_wp2
  go_ret
  exact ⟨rfl, R.out, B.out⟩
end Go.Proofs.YtlkmebimgpigjaaDoor
