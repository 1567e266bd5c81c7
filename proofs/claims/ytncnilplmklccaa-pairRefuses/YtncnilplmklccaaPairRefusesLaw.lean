/- sponsionlaw14.PairRefuses is true. -/
import Derived.Test.YtncnilplmklccaaPrTwo
namespace Go.Proofs.Ytncnilplmklccaa
set_option linter.unusedSimpArgs false
set_option linter.unusedVariables false
open Go.RowKit Go.Lib
attribute [local go_sem] setCell_drewN alloc_drewN

theorem Dds.below {w w' : World} {ao : Option Addr} {ds : List Dd} (h : Dds w ao ds) (hb : Below w.heap.size w w') : Dds w' ao ds := by
  rcases h with h | ⟨b, off, e, hl, hc⟩
  · exact .inl h
  · exact .inr ⟨b, off, e, Nat.lt_of_lt_of_le hl hb.size, fun j d hd => rangeAt_of (hc j d hd) (hb.block b hl)⟩
theorem Sts.below {w w' : World} {ao : Option Addr} {xs : List Stp} (h : Sts w ao xs) (hb : Below w.heap.size w w') : Sts w' ao xs := by
  rcases h with h | ⟨b, off, e, hl, hc⟩
  · exact .inl h
  · refine .inr ⟨b, off, e, Nat.lt_of_lt_of_le hl hb.size, fun j x hx => ?_⟩
    obtain ⟨ad, cd, h1, h2⟩ := hc j x hx
    exact ⟨ad, cd, rangeAt_of h1 (hb.block b hl), h2.below hb⟩
theorem sN_le {L : Nat → Kvs} {N : List Int} {x : Stp} {c : Int} (hc : 0 ≤ c) (h : ∀ y ∈ N, y ≤ c) : ∀ y ∈ sN L N x, y ≤ c + 1 := fun y hy => by
  unfold sN at hy
  split at hy
  · rcases List.mem_or_eq_of_mem_set hy with e | rfl
    · have := h y e; omega
    · rw [List.getD_eq_getElem?_getD]
      cases e : N[x.f.toNat]? with
      | none => simp; omega
      | some z => have := h z (List.mem_of_getElem? e); simp; omega
  · have := h y hy; omega
/-- An error behind all deeds refuses the try. -/
theorem sE_one {L : Nat → Kvs} {x : Stp} (h : x.x = 1) : sE L x ≠ 0 := by
  have hb : bits BinOp.and .i64 1 15 = 1 := by decide
  unfold sE sR
  rw [h, hb]
  split
  · omega
  · split
    · omega
    · split
      · omega
      · assumption
set_option maxHeartbeats 8000000 in
theorem pairRefuses_walk (ao : Option Addr) (cap : Nat) (xs : List Stp) (z : Stp) (az : Option Addr) (cz : Nat) (w : World) (hl : xs.length ≤ cap ∧ cap ≤ maxLen ∧ Sts w ao xs ∧ ∀ x ∈ xs, x.Ok) (hz : z.Ok ∧ Dds w az z.ds) :
    Calls Try.prog 3 #[.slice ao xs.length cap, .agg #[.int .u8 z.f, .int .u64 z.n, .slice az z.ds.length cz, .int .i64 z.x]] w fun e w' => e = .returned (.bool true) ∧ Below w.heap.size w w' := by
  obtain ⟨W, hW⟩ : ∃ W, w.alloc (.cells #[.int .u8 z.f, .int .u64 z.n, .slice az z.ds.length cz, .int .i64 z.x] 26) = W := ⟨_, rfl⟩
  obtain ⟨g, hg⟩ : ∃ g, w.heap.size = g := ⟨_, rfl⟩
  have hbW : Below w.heap.size w W := by rw [← hW]; exact bAl (bMe w)
  have VZ : VRow W g (stV z az cz) := by rw [← hW]; exact VRow.box _ (stV z az cz) _ hg
  have HS := hide (hl.2.2.1.below hbW)
  have HO := hide hl.2.2.2
  have HZ := hide (And.intro hz.1 (hz.2.below hbW))
  have hxl : xs.length ≤ maxLen := Nat.le_trans hl.1 hl.2.1
  have HF := hide (fun (w1 : World) (hb : Below W.heap.size W w1) => few_any (cap := cap) hb HS.out hxl (fun x hx => (HO.out x hx).len))
  have v2 := VZ.cell 2 rfl
  have HVZ := hide VZ
  have HBW := hide hbW
  have lgW : g < W.heap.size := VZ.lt
  have hzl := hz.1.len
  have hzl2 : (z.ds.length : Int) ≤ 9223372036854775807 := by unfold maxLen at hzl; omega
  clear hl hz VZ hbW
  rw [hg]
  by_cases hfew : fewB xs = true ∧ z.ds.length ≤ 10
  · obtain ⟨hfb, h10⟩ := hfew
    have h10i : (z.ds.length : Int) ≤ 10 := by omega
    obtain ⟨hl20, hx10⟩ := fewB_len hfb
    have hl20i : (xs.length : Int) ≤ 20 := by omega
    go_enter Try.func3, Try.ntmps3
    go_wp2_with fail
    refine (lives14_any W).mono ?_
    rintro e w1 ⟨rfl, hb1⟩
    have C := hide (HF.out w1 hb1)
    rw [hfb] at C
    go_wp2_with fail
    refine C.out.mono ?_
    clear C HF
    rintro e w2 ⟨rfl, hb2⟩
    have HB2 := hide (bOn hb1 hb2)
    have c2 : w2.cell? ⟨g, 2, none⟩ = some (.slice az z.ds.length cz) := ((bcell HB2.out).1 _ _ lgW).trans v2
    have C := hide (new14_any HB2.out (Fr := fun _ => False) (fun k h => h.elim))
    obtain ⟨bp, hbp⟩ : ∃ bp, w2.heap.size = bp := ⟨_, rfl⟩
    rw [hbp] at C
    clear hb1 hb2
    go_wp2_with fail
    refine C.out.mono ?_
    clear C c2
    rintro e w3 ⟨rfl, p3, _⟩
    have C := hide (T2.new (L := fun _ => []) p3)
    obtain ⟨bq, hbq⟩ : ∃ bq, w3.heap.size = bq := ⟨_, rfl⟩
    rw [hbq] at C
    clear p3
    go_wp2_with fail
    refine C.out.mono ?_
    clear C
    rintro e w4 ⟨rfl, t4, _⟩
    have T4 := hide t4
    clear t4 v2 hbp hbq hW
    go_wp2
    go_loopw [29] (fun q wr => ∃ (i : Nat) (L : Nat → Kvs) (N : List Int), i ≤ xs.length ∧ q = .int .i64 i ∧ T2 W wr bp L N bq L N (fun _ => False) ∧ ∀ y ∈ N, y ≤ (i : Int)) (fun q _ => (xs.length - intOf q).toNat)
    case atStart => exact ⟨0, _, _, Nat.zero_le _, rfl, T4.out, fun y hy => by have := (List.mem_replicate.1 hy).2; omega⟩
    case round =>
      obtain ⟨i, L, N, hi, rfl, ht, hN⟩ := hrel
      clear T4
      by_cases hlt : i < xs.length
      · have hlt1 : (i : Int) < xs.length := by omega
        obtain ⟨x, hx⟩ : ∃ x, xs[i]? = some x := ⟨xs[i], List.getElem?_eq_getElem hlt⟩
        obtain ⟨b, off, ad, cd, rfl, _, hr, hd⟩ := HS.out.got ht.be hx
        have hxo := HO.out x (List.mem_of_getElem? hx)
        have hxl := hx10 x (List.mem_of_getElem? hx)
        have e0 : wr.cell? ⟨b, off + i * 4, none⟩ = some (.int .u8 x.f) := rangeAt_cell hr 0 rfl
        have e1 := rangeAt_cell hr 1 rfl
        have e2 := rangeAt_cell hr 2 rfl
        have e3 := rangeAt_cell hr 3 rfl
        obtain ⟨gs, hgs⟩ : ∃ gs, wr.heap.size = gs := ⟨_, rfl⟩
        obtain ⟨w5, hw5⟩ : ∃ w5, wr.alloc (.cells #[.int .u8 x.f, .int .u64 x.n, .slice ad x.ds.length cd, .int .i64 x.x] 26) = w5 := ⟨_, rfl⟩
        have hb5 : Below wr.heap.size wr w5 := by rw [← hw5]; exact bAl (bMe wr)
        have V5 : VRow w5 gs (stV x ad cd) := by rw [← hw5]; exact VRow.box _ (stV x ad cd) _ hgs
        have T5 := hide (ht.add hb5 (F' := fun k => k = gs) fun k hk => .inr (by subst hk; rw [hgs]; exact ⟨Nat.le_refl _, V5.lt⟩))
        have HN := hide hN
        have C := hide (T5.out.try (cd := cd) (fun y hy => by have := hN y hy; omega) hxo hxl hd)
        have d0 : w5.cell? ⟨gs, 0, none⟩ = some (.int .u8 x.f) := V5.cell 0 rfl
        have d1 := V5.cell 1 rfl
        have d2 := V5.cell 2 rfl
        have d3 := V5.cell 3 rfl
        have HV5 := hide V5
        clear ht hN hr hx hb5 V5
        go_wp2_with fail
        refine C.out.mono ?_
        clear C d0 d1 d2 d3 e0 e1 e2 e3 hw5 hgs
        rintro e w6 ⟨rfl, t6, k6⟩
        have C := hide t6.bytes
        have KV := hide k6
        obtain ⟨L', hL'⟩ : ∃ L', sL L x = L' := ⟨_, rfl⟩
        obtain ⟨N', hN'⟩ : ∃ N', sN L N x = N' := ⟨_, rfl⟩
        rw [hL', hN'] at C
        clear t6 k6
        go_wp2_with fail
        refine C.out.mono ?_
        clear C
        rintro e w7 ⟨so, c, rfl, hcv, t7, k7⟩
        obtain ⟨B, hB⟩ : ∃ B, pairT L' N' = B := ⟨_, rfl⟩
        obtain ⟨SB, hSB⟩ : ∃ SB, strOfNums B = SB := ⟨_, rfl⟩
        have cv := hcv w7 rfl
        rw [hB, hSB] at cv
        rw [hB]
        have z0 : w7.cell? ⟨g, 0, none⟩ = some (.int .u8 z.f) := ((bcell t7.be).1 _ _ lgW).trans (HVZ.out.cell 0 rfl)
        have z1 := ((bcell t7.be).1 _ 1 lgW).trans (HVZ.out.cell 1 rfl)
        have z2 := ((bcell t7.be).1 _ 2 lgW).trans (HVZ.out.cell 2 rfl)
        have z3 := ((bcell t7.be).1 _ 3 lgW).trans (HVZ.out.cell 3 rfl)
        have T7 := hide t7
        have KV7 := hide (KV.out.trans k7)
        clear t7 k7 hcv KV
        have hN6 : ∀ y ∈ N', y ≤ (i : Int) + 1 := by rw [← hN']; exact sN_le (by omega) HN.out
        have HE := sE_one (L := L') (x := { z with x := 1 }) rfl
        have C := hide ((T7.out.below (bAl (o := .cells #[.int .u8 z.f, .int .u64 z.n, .slice az z.ds.length cz, .int .i64 1] 26) (bMe w7))).try (x := { z with x := 1 }) (ad := az) (cd := cz) (fun y hy => by have := hN6 y hy; omega) ⟨HZ.out.1.f, HZ.out.1.n, HZ.out.1.ds, HZ.out.1.len⟩ h10 HZ.out.2)
        have eL : sL L' { z with x := 1 } = L' := by unfold sL; rw [if_neg HE]
        have eN : sN L' N' { z with x := 1 } = N' := by unfold sN; rw [if_neg HE]
        rw [eL, eN] at C
        obtain ⟨E, hE⟩ : ∃ E, sE L' { z with x := 1 } = E := ⟨_, rfl⟩
        rw [hE] at C HE
        have hE1 : (E == 0) = false := by simp [HE]
        have K8 : Hid (Kp (fun k => k = gs) w7 (w7.alloc (.cells #[.int .u8 z.f, .int .u64 z.n, .slice az z.ds.length cz, .int .i64 1] 26))) := by
          obtain ⟨Fr, p, h1, h2⟩ := T7.out.act
          exact hide ((p.kp (bAl (bMe w7))).sub h1)
        have HN6 := hide hN6
        clear hN6 eL eN hE
        go_wp2_with fail
        refine C.out.mono ?_
        clear C z0 z1 z2 z3 cv
        rintro e w9 ⟨rfl, t9, k9⟩
        have C := hide t9.bytes
        have KV9 := hide ((KV7.out.trans K8.out).trans k9)
        rw [hB] at C
        clear t9 k9 K8 KV7
        go_wp2_with fail
        refine C.out.mono ?_
        clear C
        rintro e w10 ⟨so2, c2, rfl, hcv, t10, k10⟩
        have cv := hcv w10 rfl
        rw [hSB] at cv
        have VS := HV5.out.of (KV9.out.trans k10).1 ((KV9.out.trans k10).2 gs rfl)
        have d0 : w10.cell? ⟨gs, 0, none⟩ = some (.int .u8 x.f) := VS.cell 0 rfl
        have d1 := VS.cell 1 rfl
        have d2 := VS.cell 2 rfl
        have d3 := VS.cell 3 rfl
        have C := hide (t10.swap.try (cd := cd) (fun y hy => by have := HN.out y hy; omega) hxo hxl hd)
        clear t10 k10 hcv VS KV9
        go_wp2_with fail
        refine C.out.mono ?_
        clear C d0 d1 d2 d3 cv
        rintro e w11 ⟨rfl, t11, k11⟩
        rw [hL', hN'] at t11
        have C := hide t11.bytes
        rw [hB] at C
        clear t11 k11
        go_wp2_with fail
        refine C.out.mono ?_
        clear C
        rintro e w12 ⟨so3, c3, rfl, hcv, t12, k12⟩
        have cv := hcv w12 rfl
        rw [hSB] at cv
        have T12 := hide t12
        clear t12 k12 hcv
        go_wp2
        go_roundw
        case rel => exact ⟨i + 1, L', N', by omega, by simp, T12.out.swap.sub (fun k h => h.elim), fun y hy => by have := HN6.out y hy; omega⟩
        case measure => simp [intOf]; omega
      · obtain rfl : i = xs.length := by omega
        have HT := hide ht.be
        clear ht
        go_wp2
        go_ret
        rw [← hg]
        exact ⟨rfl, bOn HBW.out HT.out⟩
  · cases hfb : fewB xs with
    | false =>
      go_enter Try.func3, Try.ntmps3
      go_wp2_with fail
      refine (lives14_any W).mono ?_
      rintro e w1 ⟨rfl, hb1⟩
      have C := hide (HF.out w1 hb1)
      rw [hfb] at C
      go_wp2_with fail
      refine C.out.mono ?_
      rintro e w2 ⟨rfl, hb2⟩
      go_wp2_with fail
      refine (lives14_any w2).mono ?_
      rintro e w3 ⟨rfl, hb3⟩
      go_wp2
      go_ret
      rw [← hg]
      exact ⟨rfl, bOn HBW.out (bOn (bOn hb1 hb2) hb3)⟩
    | true =>
      have h10 : (10 : Int) < z.ds.length := by
        have : ¬ z.ds.length ≤ 10 := fun e => hfew ⟨hfb, e⟩
        omega
      go_enter Try.func3, Try.ntmps3
      go_wp2_with fail
      refine (lives14_any W).mono ?_
      rintro e w1 ⟨rfl, hb1⟩
      have C := hide (HF.out w1 hb1)
      rw [hfb] at C
      go_wp2_with fail
      refine C.out.mono ?_
      rintro e w2 ⟨rfl, hb2⟩
      have c2 : w2.cell? ⟨g, 2, none⟩ = some (.slice az z.ds.length cz) := ((bcell (bOn hb1 hb2)).1 _ _ lgW).trans v2
      go_wp2_with fail
      refine (lives14_any w2).mono ?_
      rintro e w3 ⟨rfl, hb3⟩
      go_wp2
      go_ret
      rw [← hg]
      exact ⟨rfl, bOn HBW.out (bOn (bOn hb1 hb2) hb3)⟩
end Go.Proofs.Ytncnilplmklccaa
