/- The contract of sponsionlaw09.Same over this translation. -/
import Derived.Test.YtajkdbpojeaflaaEvtEq
import Derived.Test.YtajkdbpojeaflaaEvts
import Derived.Test.YtajkdbpojeaflaaHand
namespace Go.Proofs.Ytajkdbpojeaflaa
open Go.RowKit Go.Lib
attribute [local go_sem] setCell_drewN alloc_drewN neqEvtR

/-- What stands while two events are held against each other. -/
structure XS9 (b off b2 off2 k : Nat) (x y : Evt) (w : World) : Prop where
  rx : w.rangeAt b (off + k * 47) (ec x)
  ry : w.rangeAt b2 (off2 + k * 47) (ec y)
theorem eq_upto {xs ys : List Evt} {k : Nat} {x y : Evt} (hx : xs[k]? = some x) (hy : ys[k]? = some y) (h : xs.take k = ys.take k) (e : x = y) : xs.take (k + 1) = ys.take (k + 1) := by
  rw [List.take_add_one, List.take_add_one, hx, hy, h, e]
set_option maxRecDepth 100000 in
set_option maxHeartbeats 4000000 in
theorem same9_any {w : World} {ao bo : Option Addr} {cap cap2 : Nat} {xs ys : List Evt} (h1 : Evs w ao xs) (h2 : Evs w bo ys) (o1 : ∀ x ∈ xs, Evt.Ok x) (o2 : ∀ y ∈ ys, Evt.Ok y) (l1 : xs.length ≤ 20000) (l2 : ys.length ≤ 20000) :
    Calls Try.prog 14 #[.slice ao xs.length cap, .slice bo ys.length cap2] w fun e w' => ∃ b, e = .returned (.bool b) ∧ (b = true ↔ xs = ys) ∧ Below w.heap.size w w' := by
  have H1 := hide h1; have H2 := hide h2; have O1 := hide o1; have O2 := hide o2
  clear h1 h2 o1 o2
  by_cases hlen : xs.length = ys.length
  · have hli : (ys.length : Int) = (xs.length : Int) := by omega
    have HLEN := hide hlen
    go_enter Try.func14, Try.ntmps14
    go_wp2
    go_loopw [13] (fun t wr => ∃ k : Nat, k ≤ xs.length ∧ t = .int .i64 k ∧ xs.take k = ys.take k ∧ Below w.heap.size w wr) (fun t _ => xs.length - (intOf t).toNat)
    case atStart => exact ⟨0, by omega, rfl, by simp, bMe w⟩
    case round =>
      obtain ⟨k, hk, rfl, ht, hb⟩ := hrel
      have HT := hide ht; have B := hide hb
      clear ht hb
      by_cases hlt : k < xs.length
      · have hki : (k : Int) < (xs.length : Int) := by omega
        have hkj : (k : Int) < (ys.length : Int) := by omega
        obtain ⟨x, hx⟩ : ∃ x, xs[k]? = some x := ⟨xs[k], by simp [hlt]⟩
        obtain ⟨y, hy⟩ : ∃ y, ys[k]? = some y := ⟨ys[k]'(by omega), by simp [show k < ys.length by omega]⟩
        have HX := hide hx; have HY := hide hy
        obtain ⟨b, off, rfl, hr⟩ := (H1.out.below B.out).get hx
        obtain ⟨b2, off2, rfl, hr2⟩ := (H2.out.below B.out).get hy
        have X : Hid (XS9 b off b2 off2 k x y wr.drew) := ⟨hr, hr2⟩
        clear hx hy hr hr2
        obtain ⟨q, hB⟩ : ∃ q, sameE x y = q := ⟨_, rfl⟩
        have HBB : Hid (q = true ↔ x = y) := by rw [← hB]; exact sameE_iff (O1.out x (List.mem_of_getElem? HX.out)) (O2.out y (List.mem_of_getElem? HY.out))
        go_wp2
        refine wp_region_held_drew (S := fun w' => XS9 b off b2 off2 k x y w') (by kernel_rfl) X.out (fun _ => ?_)
        refine tk0 (v := .slice (some ⟨b, off, none⟩) xs.length cap) (by kernel_rfl) (by kernel_rfl) (by kernel_rfl) (fun _ _ _ h => h) X.out (Or.inl ⟨by rfl, fun w hw => by go_simp; try (with_reducible rfl)⟩) ?_
        simp only [Act.put, List.setIfInBounds_toArray, List.set_cons_zero, List.set_cons_succ]
        refine tk1 (v := .int .i64 k) (by kernel_rfl) (by kernel_rfl) (by kernel_rfl) (fun _ _ _ h => h) X.out (Or.inl ⟨by rfl, fun w hw => by go_simp; try (with_reducible rfl)⟩) ?_
        simp only [Act.put, List.setIfInBounds_toArray, List.set_cons_zero, List.set_cons_succ]
        refine tk2 (v := .pointer (some ⟨b, off + k * 47, none⟩)) (by kernel_rfl) (by kernel_rfl) (by kernel_rfl) (fun _ _ _ h => h) X.out (Or.inl ⟨by rfl, fun w hw => by go_simp; try (with_reducible rfl)⟩) ?_
        simp only [Act.put, List.setIfInBounds_toArray, List.set_cons_zero, List.set_cons_succ]
        refine tk3 (by kernel_rfl) (by kernel_rfl) (by kernel_rfl) (fun _ _ _ h => h) X.out (yieldsIf_load_mid (by rfl) _ _ rfl b (off + k * 47) rfl (ec x) _ (fun _ hw => hw.rx) Try.underlying40 rfl (info_evt x)) ?_
        simp only [Act.put, List.setIfInBounds_toArray, List.set_cons_zero, List.set_cons_succ]
        refine tk4 (v := .slice (some ⟨b2, off2, none⟩) ys.length cap2) (by kernel_rfl) (by kernel_rfl) (by kernel_rfl) (fun _ _ _ h => h) X.out (Or.inl ⟨by rfl, fun w hw => by go_simp; try (with_reducible rfl)⟩) ?_
        simp only [Act.put, List.setIfInBounds_toArray, List.set_cons_zero, List.set_cons_succ]
        refine tk5 (v := .int .i64 k) (by kernel_rfl) (by kernel_rfl) (by kernel_rfl) (fun _ _ _ h => h) X.out (Or.inl ⟨by rfl, fun w hw => by go_simp; try (with_reducible rfl)⟩) ?_
        simp only [Act.put, List.setIfInBounds_toArray, List.set_cons_zero, List.set_cons_succ]
        refine tk6 (v := .pointer (some ⟨b2, off2 + k * 47, none⟩)) (by kernel_rfl) (by kernel_rfl) (by kernel_rfl) (fun _ _ _ h => h) X.out (Or.inl ⟨by rfl, fun w hw => by go_simp; try (with_reducible rfl)⟩) ?_
        simp only [Act.put, List.setIfInBounds_toArray, List.set_cons_zero, List.set_cons_succ]
        refine tk7 (by kernel_rfl) (by kernel_rfl) (by kernel_rfl) (fun _ _ _ h => h) X.out (yieldsIf_load_mid (by rfl) _ _ rfl b2 (off2 + k * 47) rfl (ec y) _ (fun _ hw => hw.ry) Try.underlying37 rfl (info_rev y)) ?_
        simp only [Act.put, List.setIfInBounds_toArray, List.set_cons_zero, List.set_cons_succ]
        refine tk8 (v := .bool (!q)) (by kernel_rfl) (by kernel_rfl) (by kernel_rfl) (fun _ _ _ h => h) X.out (Or.inl ⟨by rfl, fun w hw => by rw [← hB]; exact exec_neqR _ _ _ _ rfl x y rfl rfl w⟩) ?_
        simp only [Act.put, List.setIfInBounds_toArray, List.set_cons_zero, List.set_cons_succ]
        refine wpAnyH_done (by kernel_rfl) ?_ _
        have HNX : Hid (x = y → xs.take (k + 1) = ys.take (k + 1)) := eq_upto HX.out HY.out HT.out
        cases q with
        | true =>
          have e := HBB.out.1 rfl
          go_wp2
          go_roundw
          case rel => exact ⟨k + 1, by omega, by go_num, HNX.out e, B.out.drew⟩
          case measure => simp [intOf]; omega
        | false =>
          have e : ¬ x = y := fun e => by have := HBB.out.2 e; cases this
          have HNE : Hid (¬ x = y) := e
          clear e
          go_wp2
          go_ret
          refine ⟨false, rfl, ⟨fun h => (by cases h), fun h => ?_⟩, B.out.drew⟩
          subst h
          have h1 := HX.out
          rw [HY.out] at h1
          exact absurd (Option.some.inj h1).symm HNE.out
      · obtain rfl : k = xs.length := by omega
        have HE : Hid (xs = ys) := by
          have h1 := HT.out
          rw [List.take_length, HLEN.out, List.take_length] at h1
          exact h1
        go_wp2
        go_ret
        exact ⟨true, rfl, ⟨fun _ => HE.out, fun _ => rfl⟩, B.out⟩
  · have hli : ¬ (ys.length : Int) = (xs.length : Int) := by omega
    have hli2 : ¬ (xs.length : Int) = (ys.length : Int) := by omega
    have HNE : Hid (xs ≠ ys) := fun e => hlen (by rw [e])
    go_enter Try.func14, Try.ntmps14
    go_wp2
    go_ret
    exact ⟨false, rfl, ⟨fun h => (by cases h), fun h => absurd h HNE.out⟩, bMe w⟩
end Go.Proofs.Ytajkdbpojeaflaa
