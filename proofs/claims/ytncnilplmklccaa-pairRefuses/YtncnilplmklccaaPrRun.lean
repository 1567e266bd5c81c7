/- Whole tries: sponsionlaw14.few and try. -/
import Derived.Test.YtncnilplmklccaaPrSteps
import Derived.Deep.RegionHeld3
namespace Go.Proofs.Ytncnilplmklccaa
set_option linter.unusedSimpArgs false
set_option linter.unusedVariables false
open Go.RowKit Go.Lib
attribute [local go_sem] setCell_drewN alloc_drewN

/-- Are tries few? -/
def fewB (xs : List Stp) : Bool := xs.all (fun x => decide (x.ds.length ≤ 10)) && decide (xs.length ≤ 20)
theorem fewB_len {xs : List Stp} (h : fewB xs = true) : xs.length ≤ 20 ∧ ∀ x ∈ xs, x.ds.length ≤ 10 := by
  unfold fewB at h
  simp at h
  exact ⟨h.2, h.1⟩
set_option maxHeartbeats 2000000 in
theorem few_any {W w : World} {ao : Option Addr} {cap : Nat} {xs : List Stp} (hb : Below W.heap.size W w) (h : Sts W ao xs) (hl : xs.length ≤ maxLen) (hd : ∀ x ∈ xs, x.ds.length ≤ maxLen) :
    Calls Try.prog 7 #[.slice ao xs.length cap] w fun e w' => e = .returned (.bool (fewB xs)) ∧ Below w.heap.size w w' := by
  have hml : (xs.length : Int) ≤ 9223372036854775807 := by unfold maxLen at hl; omega
  have HB := hide hb
  have HX := hide h
  have HD := hide hd
  clear hb h hd
  go_enter Try.func7, Try.ntmps7
  go_wp2
  go_loopw [7] (fun t wr => ∃ k : Nat, k ≤ xs.length ∧ t = .int .i64 k ∧ Below w.heap.size w wr ∧ (xs.take k).all (fun x => decide (x.ds.length ≤ 10)) = true) (fun t _ => (xs.length - intOf t).toNat)
  case atStart => exact ⟨0, by omega, rfl, bMe w, by simp⟩
  case round =>
    obtain ⟨k, hk, rfl, hbr, hall⟩ := hrel
    by_cases hlt : k < xs.length
    · have hlt1 : (k : Int) < xs.length := by omega
      obtain ⟨x, hx⟩ : ∃ x, xs[k]? = some x := ⟨xs[k], List.getElem?_eq_getElem hlt⟩
      obtain ⟨b, off, ad, cd, rfl, _, hr, _⟩ := HX.out.got (bOn HB.out hbr) hx
      have e0 : wr.cell? ⟨b, off + k * 4, none⟩ = some (.int .u8 x.f) := rangeAt_cell hr 0 rfl
      have e1 := rangeAt_cell hr 1 rfl
      have e2 := rangeAt_cell hr 2 rfl
      have e3 := rangeAt_cell hr 3 rfl
      have hdl := HD.out x (List.mem_of_getElem? hx)
      have hdl2 : (x.ds.length : Int) ≤ 9223372036854775807 := by unfold maxLen at hdl; omega
      have htk : xs.take (k + 1) = xs.take k ++ [x] := by
        rw [List.take_succ_eq_append_getElem hlt]
        rw [List.getElem?_eq_getElem hlt] at hx
        injection hx with hx
        rw [hx]
      have HBR := hide (And.intro hbr hall)
      have hw1 : IntKind.i64.wrap ((k : Int) + 1) = (k : Int) + 1 := by rw [IntKind.wrap_i64]; omega
      clear hbr hall hr
      by_cases hten : x.ds.length ≤ 10
      · have hten1 : (x.ds.length : Int) ≤ 10 := by omega
        go_wp2
        go_roundw
        case rel => exact ⟨k + 1, by omega, by simp, bAl HBR.out.1, by rw [htk, List.all_append, HBR.out.2]; simp [hten]⟩
        case measure => simp [intOf]; omega
      · have hten1 : (10 : Int) < (x.ds.length : Int) := by omega
        go_wp2
        go_ret
        have hf : fewB xs = false := by
          cases hq : fewB xs with
          | false => rfl
          | true => exact absurd ((fewB_len hq).2 x (List.mem_of_getElem? hx)) hten
        rw [hf]
        exact ⟨rfl, bAl HBR.out.1⟩
    · obtain rfl : k = xs.length := by omega
      rw [List.take_length] at hall
      have HBR := hide (And.intro hbr hall)
      clear hbr hall
      go_wp2
      go_ret
      refine ⟨?_, HBR.out.1⟩
      unfold fewB
      rw [HBR.out.2]
      simp
      omega
/-- A try's function's answer; the try's; what it leaves. -/
def sR (L : Nat → Kvs) (x : Stp) : Int := if (rD L x.ds).1 = 0 then bits BinOp.and .i64 x.x 15 else (rD L x.ds).1
def sE (L : Nat → Kvs) (x : Stp) : Int := if 16 ≤ x.f then 1 else if x.n ≠ 0 then 9 else sR L x
def sL (L : Nat → Kvs) (x : Stp) : Nat → Kvs := if sE L x = 0 then (rD L x.ds).2 else L
def sN (L : Nat → Kvs) (N : List Int) (x : Stp) : List Int := if sE L x = 0 then N.set x.f.toNat (N.getD x.f.toNat 0 + 1) else N
theorem enters_try : ∀ (a : Array Value) w, (callFunc 26 a).run Try.prog w = .ok (.enter 26 a) w := fun a w => enters_of Try.func26 (by kernel_rfl) rfl a w
/-- Try, of the deeds of a try in a box. -/
theorem tryS_any {W w : World} {bp f gs gp cd : Nat} {ad : Option Addr} {L : Nat → Kvs} {N : List Int} {F : Nat → Prop} {x : Stp} {y : Int} (p : PQ W w bp L N F) (hf : f < 16) (hy : N[f]? = some y) (hy1 : y + 1 < 18446744073709551616) (hx : x.Ok) (hlen : x.ds.length ≤ 10) (hd : Dds W ad x.ds) (fs : F gs) (fp : F gp)
    (V : VRow w gs (stV x ad cd)) (cp : w.cell? ⟨gp, 0, none⟩ = some (.pointer (some ⟨bp, 0, none⟩))) :
    Calls Try.prog 11 #[.pointer (some ⟨bp, 0, none⟩), .int .u8 f, .int .u64 y, .func (.func 26) #[] #[.pointer (some ⟨gs, 0, none⟩), .pointer (some ⟨gp, 0, none⟩)]] w fun e w' =>
      e = .returned (.int .i64 (sR L x)) ∧ (sR L x = 0 → PQ W w' bp (rD L x.ds).2 (N.set f (y + 1)) F) ∧ (sR L x ≠ 0 → PQ W w' bp L N F) ∧ Kp F w w' := by
  refine (tryGo_any (D := fun E n' H' w4 w5 => E = sR L x ∧ Kp F w4 w5 ∧ ∀ s, s < 2 → H' s n' = (rD L x.ds).2 s) (enters_try _) p hf hy hy1 (fun w4 hb hz p4 => ?_)).mono ?_
  · refine (do14_any p4 hx hd (by omega) (.inl fs) (.inl fp) (V.of hb.size (hb.block _ V.lt)) (((bcell hb).1 _ _ (cell_lt cp)).trans cp)).mono ?_
    rintro e w5 ⟨rfl, n', H', q1, q2, q3⟩
    refine ⟨sR L x, n', H', rfl, q1, Nat.zero_le _, by have := q3.up; omega, fun s m hs hm => q3.was s m hs hm, fun k h1 h2 => q2.2 k (.inr ⟨h1, h2⟩), rfl, q2.sub fun _ => .inl, fun s hs => q3.now s hs⟩
  · rintro e w7 ⟨E, n', H', w4, w5, rfl, hb, ⟨rfl, k1, hn⟩, k2, r0, r1⟩
    refine ⟨rfl, fun h => (r0 h).congr fun s m hs _ => hn s hs, r1, ((p.kp hb).trans k1).trans k2⟩
set_option maxHeartbeats 4000000 in
/-- The walk of try: its calls' answers as they come. -/
theorem tryWalk_any {w : World} {bp cd f : Nat} {ad : Option Addr} {x : Stp} {y q E : Int} {T : World → Prop} (hf : x.f = (f : Int)) (hq : IntKind.u64.wrap (y + x.n) = q)
    (HNo : ∀ w1, Below w.heap.size w w1 → Calls Try.prog 13 #[.pointer (some ⟨bp, 0, none⟩), .int .u8 f] w1 fun e w' => e = .returned (.int .u64 y) ∧ w' = w1)
    (HTr : ∀ w1, Below w.heap.size w w1 → w1.heap.size = w.heap.size + 2 → VRow w1 (w.heap.size + 1) (stV x ad cd) → w1.cell? ⟨w.heap.size, 0, none⟩ = some (.pointer (some ⟨bp, 0, none⟩)) → Calls Try.prog 11 #[.pointer (some ⟨bp, 0, none⟩), .int .u8 f, .int .u64 q, .func (.func 26) #[] #[.pointer (some ⟨w.heap.size + 1, 0, none⟩), .pointer (some ⟨w.heap.size, 0, none⟩)]] w1 fun e w' => e = .returned (.int .i64 E) ∧ T w' ∧ Kp (fun k => w.heap.size ≤ k ∧ k < w.heap.size + 2) w1 w') :
    Calls Try.prog 9 #[.pointer (some ⟨bp, 0, none⟩), .agg #[.int .u8 x.f, .int .u64 x.n, .slice ad x.ds.length cd, .int .i64 x.x]] w fun e w' => e = .returned (.int .i64 E) ∧ T w' := by
  have hmf : ∀ (fn : Fn) (first cap : Array Value) (w : World), (Instr.makeFunc fn first cap).run Try.prog w = .ok (.func fn first cap) w := fun _ _ _ _ => rfl
  obtain ⟨w1, hw1⟩ : ∃ w1, (w.alloc (.cells #[.pointer (some ⟨bp, 0, none⟩)] 29)).alloc (.cells #[.int .u8 x.f, .int .u64 x.n, .slice ad x.ds.length cd, .int .i64 x.x] 26) = w1 := ⟨_, rfl⟩
  have hb1 : Below w.heap.size w w1 := by rw [← hw1]; exact bAl (bAl (bMe w))
  have V : VRow w1 (w.heap.size + 1) (stV x ad cd) := by rw [← hw1]; exact VRow.box _ (stV x ad cd) _ (by simp)
  have c0 : w1.cell? ⟨w.heap.size, 0, none⟩ = some (.pointer (some ⟨bp, 0, none⟩)) := by rw [← hw1]; simp [go_sem]
  have hz1 : w1.heap.size = w.heap.size + 2 := by rw [← hw1]; simp
  have v0 : w1.cell? ⟨w.heap.size + 1, 0, none⟩ = some (.int .u8 f) := by rw [← hf]; exact V.cell 0 rfl
  have v1 := V.cell 1 rfl
  have H1 := hide (HNo w1.drew hb1.drew)
  have H2 := hide (HTr w1.drew hb1.drew hz1 (V.of (Nat.le_refl _) rfl) c0)
  rw [hf] at hw1
  rw [hf]
  clear HNo HTr V hb1 hz1
  go_enter Try.func9, Try.ntmps9
  go_wp2
  go_region_held3 (fun w' => w'.cell? ⟨w.heap.size, 0, none⟩ = some (.pointer (some ⟨bp, 0, none⟩)) ∧ w'.cell? ⟨w.heap.size + 1, 0, none⟩ = some (.int .u8 f) ∧ w'.cell? ⟨w.heap.size + 1, 1, none⟩ = some (.int .u64 x.n)) (first | exact ⟨c0, v0, v1⟩ | exact ⟨(k9.cell ⟨Nat.le_refl _, by omega⟩).trans c0, (k9.cell ⟨by omega, by omega⟩).trans v0, (k9.cell ⟨by omega, by omega⟩).trans v1⟩) (first | (go_at_call 13; refine H1.out.mono ?_; rintro e w9 ⟨rfl, rfl⟩) | (go_at_call 11; refine H2.out.mono ?_; rintro e w9 ⟨rfl, t9, k9⟩))
  all_goals
    go_wp2
    go_ret
    exact ⟨rfl, t9⟩
set_option maxHeartbeats 4000000 in
theorem try14_any {W w : World} {bp cd : Nat} {ad : Option Addr} {L : Nat → Kvs} {N : List Int} {F : Nat → Prop} {x : Stp} (p : PQ W w bp L N F) (hN : ∀ y ∈ N, y ≤ 1000000) (hx : x.Ok) (hlen : x.ds.length ≤ 10) (hd : Dds W ad x.ds) :
    Calls Try.prog 9 #[.pointer (some ⟨bp, 0, none⟩), .agg #[.int .u8 x.f, .int .u64 x.n, .slice ad x.ds.length cd, .int .i64 x.x]] w fun e w' => e = .returned (.int .i64 (sE L x)) ∧ PQ W w' bp (sL L x) (sN L N x) F ∧ Kp F w w' := by
  have hxf := hx.f
  obtain ⟨f, hf⟩ : ∃ f : Nat, x.f = (f : Int) := ⟨x.f.toNat, by omega⟩
  have hft : x.f.toNat = f := by omega
  have hww := p.kp (bMe w)
  have pw1 : ∀ w1, Below w.heap.size w w1 → w1.heap.size = w.heap.size + 2 → PQ W w1 bp L N (fun k => F k ∨ (w.heap.size ≤ k ∧ k < w.heap.size + 2)) := fun w1 hb hz => p.add hb fun k hk => ⟨hk.1, by omega⟩
  by_cases h16 : 16 ≤ f
  · have eE : sE L x = 1 := by unfold sE; rw [if_pos (by omega)]
    have eL : sL L x = L := by unfold sL; rw [eE, if_neg (by omega)]
    have eN : sN L N x = N := by unfold sN; rw [eE, if_neg (by omega)]
    rw [eE, eL, eN]
    refine (tryWalk_any (T := fun w' => PQ W w' bp L N F ∧ Kp F w w') (E := 1) hf rfl (fun w1 _ => nonceNo_any h16 (by omega)) (fun w1 hb hz V c0 => (tryArg_any h16 (by omega)).mono ?_)).mono ?_
    · rintro e w2 ⟨rfl, hb2⟩
      have p1 := pw1 w1 hb hz
      exact ⟨rfl, ⟨(p1.below hb2).sub fun k => .inl, (p.kp hb).trans (p1.kp hb2 |>.sub fun k => .inl)⟩, (p1.kp hb2).sub fun k => .inr⟩
    · rintro e w' ⟨rfl, h⟩
      exact ⟨rfl, h⟩
  · have hf16 : f < 16 := by omega
    obtain ⟨y, hy⟩ : ∃ y, N[f]? = some y := ⟨N[f]'(by rw [p.nl]; omega), List.getElem?_eq_getElem _⟩
    have hyb := p.nb y (List.mem_of_getElem? hy)
    have hyl := hN y (List.mem_of_getElem? hy)
    by_cases hn : x.n = 0
    · have eE : sE L x = sR L x := by unfold sE; rw [if_neg (by omega), if_neg (by simp [hn])]
      refine (tryWalk_any (T := fun w' => PQ W w' bp (sL L x) (sN L N x) F ∧ Kp F w w') (E := sE L x) (q := y) hf (by rw [hn, IntKind.wrap_u64]; omega) (fun w1 hb => nonce_any hf16 ((p.below hb).cell hy)) (fun w1 hb hz V c0 => (tryS_any (pw1 w1 hb hz) hf16 hy (by omega) hx hlen hd (.inr ⟨by omega, by omega⟩) (.inr ⟨by omega, by omega⟩) V c0).mono ?_)).mono ?_
      · rintro e w2 ⟨rfl, r0, r1, k2⟩
        refine ⟨by rw [eE], ⟨?_, (p.kp hb).trans (k2.sub fun k => .inl)⟩, k2.sub fun k => .inr⟩
        by_cases h0 : sR L x = 0
        · have e1 : sL L x = (rD L x.ds).2 := by unfold sL; rw [eE, if_pos h0]
          have e2 : sN L N x = N.set f (y + 1) := by unfold sN; rw [eE, if_pos h0, hft, List.getD_eq_getElem?_getD, hy]; rfl
          rw [e1, e2]
          exact (r0 h0).sub fun k => .inl
        · have e1 : sL L x = L := by unfold sL; rw [eE, if_neg h0]
          have e2 : sN L N x = N := by unfold sN; rw [eE, if_neg h0]
          rw [e1, e2]
          exact (r1 h0).sub fun k => .inl
      · rintro e w' ⟨rfl, h⟩
        exact ⟨rfl, h⟩
    · have eE : sE L x = 9 := by unfold sE; rw [if_neg (by omega), if_pos hn]
      have eL : sL L x = L := by unfold sL; rw [eE, if_neg (by omega)]
      have eN : sN L N x = N := by unfold sN; rw [eE, if_neg (by omega)]
      have hxn := hx.n
      rw [eE, eL, eN]
      refine (tryWalk_any (T := fun w' => PQ W w' bp L N F ∧ Kp F w w') (E := 9) (q := IntKind.u64.wrap (y + x.n)) hf rfl (fun w1 hb => nonce_any hf16 ((p.below hb).cell hy)) (fun w1 hb hz V c0 => (tryNonce_any hf16 ((pw1 w1 hb hz).cell hy) (by rw [IntKind.wrap_u64]; omega)).mono ?_)).mono ?_
      · rintro e w2 ⟨rfl, hb2⟩
        have p1 := pw1 w1 hb hz
        exact ⟨rfl, ⟨(p1.below hb2).sub fun k => .inl, (p.kp hb).trans (p1.kp hb2 |>.sub fun k => .inl)⟩, (p1.kp hb2).sub fun k => .inr⟩
      · rintro e w' ⟨rfl, h⟩
        exact ⟨rfl, h⟩
end Go.Proofs.Ytncnilplmklccaa
