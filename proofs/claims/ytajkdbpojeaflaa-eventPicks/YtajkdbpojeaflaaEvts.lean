/- A slice of events in memory; the contract of event.Bytes. -/
import Derived.Test.YtajkdbpojeaflaaEvtPut
namespace Go.Proofs.Ytajkdbpojeaflaa
open Go.RowKit Go.Lib
attribute [local go_sem] setCell_drewN alloc_drewN

/-- These events lie at this address. -/
def Evs (w : World) (ao : Option Addr) (xs : List Evt) : Prop :=
  xs = [] ∨ ∃ b off, ao = some ⟨b, off, none⟩ ∧ b < w.heap.size ∧ ∀ (j : Nat) x, xs[j]? = some x → w.rangeAt b (off + j * 47) (ec x)
theorem Evs.nil (w : World) (ao : Option Addr) : Evs w ao [] := .inl rfl
theorem Evs.of {w w' : World} {ao : Option Addr} {xs : List Evt} (h : Evs w ao xs) (hs : w.heap.size ≤ w'.heap.size) (hb : ∀ k, blk ao = some k → k < w.heap.size → w'.heap[k]? = w.heap[k]?) : Evs w' ao xs := by
  rcases h with h | ⟨b, off, rfl, hl, hc⟩
  · exact .inl h
  · exact .inr ⟨b, off, rfl, Nat.lt_of_lt_of_le hl hs, fun j x hx i v hv => (World.cell?_of_block (w := w) (a := ⟨b, off + j * 47 + i, none⟩) (hb b rfl hl)).trans (hc j x hx i v hv)⟩
theorem Evs.below {w w' : World} {ao : Option Addr} {xs : List Evt} (h : Evs w ao xs) (hb : Below w.heap.size w w') : Evs w' ao xs := h.of hb.size fun k _ hk => hb.block k hk
theorem Evs.get {w : World} {ao : Option Addr} {xs : List Evt} (h : Evs w ao xs) {j : Nat} {x : Evt} (hx : xs[j]? = some x) : ∃ b off, ao = some ⟨b, off, none⟩ ∧ w.rangeAt b (off + j * 47) (ec x) := by
  rcases h with rfl | ⟨b, off, e, _, hc⟩
  · simp at hx
  · exact ⟨b, off, e, hc j x hx⟩
/-- The bytes of events, one behind the other. -/
def allE (xs : List Evt) : List Int := (xs.map ebytes).flatten
theorem allE_nil : allE [] = [] := rfl
theorem allE_cons (x : Evt) (xs : List Evt) : allE (x :: xs) = ebytes x ++ allE xs := by simp [allE]
theorem allE_append (xs ys : List Evt) : allE (xs ++ ys) = allE xs ++ allE ys := by simp [allE]
theorem allE_snoc {xs : List Evt} {k : Nat} {x : Evt} (h : xs[k]? = some x) : allE (xs.take (k + 1)) = allE (xs.take k) ++ ebytes x := by
  unfold allE
  rw [List.take_add_one, h]
  simp
theorem allE_length (xs : List Evt) : (allE xs).length = 113 * xs.length := by
  induction xs with
  | nil => simp [allE]
  | cons x r ih => rw [allE_cons, List.length_append, ebytes_length, ih]; simp; omega
theorem allE_byt {xs : List Evt} (h : ∀ x ∈ xs, Evt.Ok x) : Byt (allE xs) := by
  induction xs with
  | nil => intro x hx; simp [allE] at hx
  | cons x r ih => rw [allE_cons]; exact (ebytes_byt (h x (by simp))).app (ih fun y hy => h y (by simp [hy]))
theorem all_snoc {xs : List Evt} {k : Nat} {x : Evt} (h : xs[k]? = some x) (ha : (xs.take k).all mayE = true) (hm : mayE x = true) : (xs.take (k + 1)).all mayE = true := by
  rw [List.take_add_one, h, List.all_append, ha]; simp [hm]
theorem all_no {xs : List Evt} {k : Nat} {x : Evt} (h : xs[k]? = some x) (hm : mayE x = false) : xs.all mayE = false := by
  rw [List.all_eq_false]
  exact ⟨x, List.mem_of_getElem? h, by simp [hm]⟩
theorem zeroEvt_is (w : World) : VRow (w.alloc (.cells #[.int .u8 0, .int .u64 0, .int .u8 0, .int .u8 0, .int .u8 0, .int .u8 0, .int .u8 0, .int .u8 0, .int .u8 0, .int .u8 0, .int .u8 0, .int .u8 0, .int .u8 0, .int .u8 0, .int .u8 0, .int .u8 0, .int .u8 0, .int .u8 0, .int .u8 0, .int .u8 0, .int .u8 0, .int .u8 0, .int .u8 0, .int .u8 0, .int .u8 0, .int .u8 0, .int .u8 0, .int .u8 0, .int .u8 0, .int .u8 0, .int .u8 0, .int .u8 0, .int .u8 0, .int .u8 0, .int .u8 0, .int .u8 0, .int .u8 0, .int .u8 0, .int .u64 0, .int .u64 0, .int .u64 0, .int .u64 0, .int .u64 0, .int .u64 0, .int .u64 0, .int .u64 0, .int .u32 0] 40)) w.heap.size (ec noEvt) := by
  have h := VRow.new w (ec noEvt) 40
  have e : (ec noEvt).toArray = #[.int .u8 0, .int .u64 0, .int .u8 0, .int .u8 0, .int .u8 0, .int .u8 0, .int .u8 0, .int .u8 0, .int .u8 0, .int .u8 0, .int .u8 0, .int .u8 0, .int .u8 0, .int .u8 0, .int .u8 0, .int .u8 0, .int .u8 0, .int .u8 0, .int .u8 0, .int .u8 0, .int .u8 0, .int .u8 0, .int .u8 0, .int .u8 0, .int .u8 0, .int .u8 0, .int .u8 0, .int .u8 0, .int .u8 0, .int .u8 0, .int .u8 0, .int .u8 0, .int .u8 0, .int .u8 0, .int .u8 0, .int .u8 0, .int .u8 0, .int .u8 0, .int .u64 0, .int .u64 0, .int .u64 0, .int .u64 0, .int .u64 0, .int .u64 0, .int .u64 0, .int .u64 0, .int .u32 0] := by
    simp [ec, ecT, noEvt, lm_zero, rowV, List.range, List.range.loop]
  rw [e] at h
  exact h
/-- The box of a row's element. -/
theorem copiedE (w : World) (x : Evt) : VRow ((w.alloc (.cells #[.int .u8 0, .int .u64 0, .int .u8 0, .int .u8 0, .int .u8 0, .int .u8 0, .int .u8 0, .int .u8 0, .int .u8 0, .int .u8 0, .int .u8 0, .int .u8 0, .int .u8 0, .int .u8 0, .int .u8 0, .int .u8 0, .int .u8 0, .int .u8 0, .int .u8 0, .int .u8 0, .int .u8 0, .int .u8 0, .int .u8 0, .int .u8 0, .int .u8 0, .int .u8 0, .int .u8 0, .int .u8 0, .int .u8 0, .int .u8 0, .int .u8 0, .int .u8 0, .int .u8 0, .int .u8 0, .int .u8 0, .int .u8 0, .int .u8 0, .int .u8 0, .int .u64 0, .int .u64 0, .int .u64 0, .int .u64 0, .int .u64 0, .int .u64 0, .int .u64 0, .int .u64 0, .int .u32 0] 40)).setCells w.heap.size 0 (ec x)) w.heap.size (ec x) ∧ Below w.heap.size w ((w.alloc (.cells #[.int .u8 0, .int .u64 0, .int .u8 0, .int .u8 0, .int .u8 0, .int .u8 0, .int .u8 0, .int .u8 0, .int .u8 0, .int .u8 0, .int .u8 0, .int .u8 0, .int .u8 0, .int .u8 0, .int .u8 0, .int .u8 0, .int .u8 0, .int .u8 0, .int .u8 0, .int .u8 0, .int .u8 0, .int .u8 0, .int .u8 0, .int .u8 0, .int .u8 0, .int .u8 0, .int .u8 0, .int .u8 0, .int .u8 0, .int .u8 0, .int .u8 0, .int .u8 0, .int .u8 0, .int .u8 0, .int .u8 0, .int .u8 0, .int .u8 0, .int .u8 0, .int .u64 0, .int .u64 0, .int .u64 0, .int .u64 0, .int .u64 0, .int .u64 0, .int .u64 0, .int .u64 0, .int .u32 0] 40)).setCells w.heap.size 0 (ec x)) :=
  VRow.made w _ _ _ (by rw [ec_length]; rfl)
theorem copiedR (w : World) (x : Evt) : VRow ((w.alloc (.cells #[.int .u8 0, .int .u64 0, .int .u8 0, .int .u8 0, .int .u8 0, .int .u8 0, .int .u8 0, .int .u8 0, .int .u8 0, .int .u8 0, .int .u8 0, .int .u8 0, .int .u8 0, .int .u8 0, .int .u8 0, .int .u8 0, .int .u8 0, .int .u8 0, .int .u8 0, .int .u8 0, .int .u8 0, .int .u8 0, .int .u8 0, .int .u8 0, .int .u8 0, .int .u8 0, .int .u8 0, .int .u8 0, .int .u8 0, .int .u8 0, .int .u8 0, .int .u8 0, .int .u8 0, .int .u8 0, .int .u8 0, .int .u8 0, .int .u8 0, .int .u8 0, .int .u64 0, .int .u64 0, .int .u64 0, .int .u64 0, .int .u64 0, .int .u64 0, .int .u64 0, .int .u64 0, .int .u32 0] 37)).setCells w.heap.size 0 (ec x)) w.heap.size (ec x) ∧ Below w.heap.size w ((w.alloc (.cells #[.int .u8 0, .int .u64 0, .int .u8 0, .int .u8 0, .int .u8 0, .int .u8 0, .int .u8 0, .int .u8 0, .int .u8 0, .int .u8 0, .int .u8 0, .int .u8 0, .int .u8 0, .int .u8 0, .int .u8 0, .int .u8 0, .int .u8 0, .int .u8 0, .int .u8 0, .int .u8 0, .int .u8 0, .int .u8 0, .int .u8 0, .int .u8 0, .int .u8 0, .int .u8 0, .int .u8 0, .int .u8 0, .int .u8 0, .int .u8 0, .int .u8 0, .int .u8 0, .int .u8 0, .int .u8 0, .int .u8 0, .int .u8 0, .int .u8 0, .int .u8 0, .int .u64 0, .int .u64 0, .int .u64 0, .int .u64 0, .int .u64 0, .int .u64 0, .int .u64 0, .int .u64 0, .int .u32 0] 37)).setCells w.heap.size 0 (ec x)) :=
  VRow.made w _ _ _ (by rw [ec_length]; rfl)
/-- What stands while rows are written. -/
structure LS9 (w0 w : World) (g : Nat) (ao' : Option Addr) (cap' : Nat) (L : List Int) : Prop where
  wtr : Wtr w g ao' cap' L
  low : w0.heap.size ≤ g
  below : Below w0.heap.size w0 w
theorem LS9.after {w0 w w' : World} {g cap' : Nat} {ao' : Option Addr} {L : List Int} (h : LS9 w0 w g ao' cap' L) (hb : Below w.heap.size w w') : LS9 w0 w' g ao' cap' L := ⟨h.wtr.after hb rfl, h.low, bOn h.below hb⟩
theorem LS9.put {w0 w w' : World} {g cap' cap'' : Nat} {ao' ao'' : Option Addr} {L L' : List Int} (h : LS9 w0 w g ao' cap' L) (hw : Wtr w' g ao'' cap'' L') (hr : Wrote g ao' ao'' w w') : LS9 w0 w' g ao'' cap'' L' :=
  ⟨hw, h.low, hr.below h.below h.low (fun k hk => by have := (h.wtr.row k hk).1; have := h.low; omega)⟩
/-- What Bytes answers. -/
def BytesE (w w' : World) (xs : List Evt) (e : Ending) : Prop :=
  (xs.all mayE = true ∧ ∃ v, e = .returned (.tuple #[v, .int .i64 0]) ∧ Bs w' w.heap.size v (allE xs)) ∨ (xs.all mayE = false ∧ e = .returned (.tuple #[.slice none 0 0, .int .i64 6]))
set_option maxRecDepth 100000 in
set_option maxHeartbeats 4000000 in
theorem bytes9_any {w : World} {ao : Option Addr} {cap : Nat} {xs : List Evt} (h : Evs w ao xs) (hok : ∀ x ∈ xs, Evt.Ok x) (hl : xs.length ≤ 100) :
    Calls Try.prog 8 #[.slice ao xs.length cap] w fun e w' => BytesE w w' xs e ∧ Below w.heap.size w w' := by
  have HA := hide h; have HO := hide hok; have HLN := hide hl
  clear h hok
  go_enter Try.func8, Try.ntmps8
  go_wp2
  have L : Hid (LS9 w (w.alloc (.cells #[.slice none 0 0] 57)) w.heap.size none 0 []) := ⟨Wtr.new w _, Nat.le_refl _, bAl (bMe w)⟩
  generalize w.alloc (.cells #[.slice none 0 0] 57) = w2 at *
  obtain ⟨g, hg⟩ : ∃ g, w.heap.size = g := ⟨_, rfl⟩
  rw [hg] at L
  simp only [hg]
  have HG := hide hg
  clear hg
  go_loopw [10] (fun t wr => ∃ (k : Nat) (ao' : Option Addr) (cap' : Nat), k ≤ xs.length ∧ t = .int .i64 k ∧ (xs.take k).all mayE = true ∧ LS9 w wr g ao' cap' (allE (xs.take k))) (fun t _ => xs.length - (intOf t).toNat)
  case atStart => exact ⟨0, _, _, by omega, rfl, by simp, by simpa [allE] using L.out⟩
  case round =>
    clear L
    obtain ⟨k, ao', cap', hk, rfl, hall, hl⟩ := hrel
    have L := hide hl; have HALL := hide hall
    clear hl hall
    by_cases hlt : k < xs.length
    · have hki : (k : Int) < (xs.length : Int) := by omega
      obtain ⟨x, hx⟩ : ∃ x, xs[k]? = some x := ⟨xs[k], by simp [hlt]⟩
      have HX := hide (HO.out x (List.mem_of_getElem? hx))
      obtain ⟨b, off, rfl, hr⟩ := (HA.out.below L.out.below).get hx
      have R : Hid (wr.rangeAt b (off + k * 47) (ec x)) := hr
      have HN := hide (allE_snoc hx)
      have HXK := hide hx
      have HLL : Hid ((allE (xs.take k)).length ≤ 900000) := by show _ ≤ _; rw [allE_length]; simp; omega
      clear hr hx
      go_wp2_with (refine wpList_load_mid rfl 40 _ rfl b (off + k * 47) rfl (ec x) _ R.out Try.underlying40 rfl (info_evt x) ?_)
      rw [storing_new wr _ 40 (ec x) (by rw [ec_length]; rfl) (ec_one _)]
      obtain ⟨V, B2⟩ := copiedE wr x
      have HV := hide V
      have L0 := L
      replace L := hide (L.out.after B2)
      have NE : Hid (blk ao' ≠ some wr.heap.size ∧ wr.heap.size ≠ g) := by
        have h1 := L0.out.wtr.lt
        exact ⟨fun e => by have := (L0.out.wtr.row _ e).2; omega, by omega⟩
      clear V B2 L0
      generalize (wr.alloc (.cells #[.int .u8 0, .int .u64 0, .int .u8 0, .int .u8 0, .int .u8 0, .int .u8 0, .int .u8 0, .int .u8 0, .int .u8 0, .int .u8 0, .int .u8 0, .int .u8 0, .int .u8 0, .int .u8 0, .int .u8 0, .int .u8 0, .int .u8 0, .int .u8 0, .int .u8 0, .int .u8 0, .int .u8 0, .int .u8 0, .int .u8 0, .int .u8 0, .int .u8 0, .int .u8 0, .int .u8 0, .int .u8 0, .int .u8 0, .int .u8 0, .int .u8 0, .int .u8 0, .int .u8 0, .int .u8 0, .int .u8 0, .int .u8 0, .int .u8 0, .int .u8 0, .int .u64 0, .int .u64 0, .int .u64 0, .int .u64 0, .int .u64 0, .int .u64 0, .int .u64 0, .int .u64 0, .int .u32 0] 40)).setCells wr.heap.size 0 (ec x) = w4 at *
      generalize wr.heap.size = gx at *
      go_wp2_with (refine wpList_load_mid rfl 40 _ rfl gx 0 rfl (ec x) _ HV.out.range Try.underlying40 rfl (info_evt x) ?_)
      refine (check9_any x HX.out w4).mono ?_
      rintro e w5 ⟨rfl, hb⟩
      replace L := hide (L.out.after hb)
      replace HV := hide (HV.out.after hb rfl)
      clear hb
      cases hm : mayE x with
      | true =>
        have hc : chkE x = 0 := if_pos hm
        have HS := hide (all_snoc HXK.out HALL.out hm)
        clear hm
        rw [hc]
        go_wp2_with (refine wpList_load_mid rfl 40 _ rfl gx 0 rfl (ec x) _ HV.out.range Try.underlying40 rfl (info_evt x) ?_)
        refine (put9_any L.out.wtr x HX.out HLL.out).mono ?_
        rintro e w6 ⟨rfl, ao2, cap2, hw, hr⟩
        replace L := hide (L.out.put hw hr)
        rw [← HN.out] at L
        clear hw hr
        go_wp2
        go_roundw
        case rel => exact ⟨k + 1, ao2, cap2, by omega, by go_num, HS.out, L.out⟩
        case measure => simp [intOf]; omega
      | false =>
        have hc : chkE x = 6 := if_neg (by simp [hm])
        have HF := hide (all_no HXK.out hm)
        clear hm
        rw [hc]
        go_wp2
        go_ret2
        exact ⟨.inr ⟨HF.out, rfl⟩, L.out.below⟩
    · obtain rfl : k = xs.length := by omega
      rw [List.take_length] at L HALL
      go_wp2_with fail
      refine (wbytes_any L.out.wtr (by rw [allE_length]; have := HLN.out; omega)).mono ?_
      rintro e w3 ⟨v, rfl, hv, hb⟩
      have HVV := hide (hv.mono L.out.below.size)
      replace L := hide (bOn L.out.below hb)
      clear hv hb
      go_wp2
      go_ret2
      exact ⟨.inl ⟨HALL.out, v, rfl, HVV.out⟩, L.out⟩
end Go.Proofs.Ytajkdbpojeaflaa
