/- The walk of sponsionlaw09.EventPicks over this translation. -/
import Derived.Test.YtajkdbpojeaflaaEvtMore
import Derived.Test.YtajkdbpojeaflaaEvtSame
import Derived.Test.YtajkdbpojeaflaaEvtLives
import Derived.Test.YtajkdbpojeaflaaEvtTotal
import Derived.Test.YtajkdbpojeaflaaEvtOf
import Derived.Test.YtajkdbpojeaflaaPackMore
namespace Go.Proofs.Ytajkdbpojeaflaa
open Go.RowKit Go.Lib
attribute [local go_sem] setCell_drewN alloc_drewN eqHash eqInt

theorem among_next {ks : List Int} {j : Nat} {d : Int} (h : ks[j]? = some d) (kn : Nat) : among (ks.take (j + 1)) kn = (among (ks.take j) kn || d == (kn : Int)) := by
  unfold among
  rw [List.take_add_one, h]
  simp
theorem filter_next {xs : List Evt} {k : Nat} {x : Evt} (h : xs[k]? = some x) (p : Evt → Bool) : (xs.take (k + 1)).filter p = (xs.take k).filter p ++ if p x = true then [x] else [] := by
  rw [List.take_add_one, h, List.filter_append]
  congr 1
  cases hp : p x <;> simp [List.filter, hp]
/-- What stands while events are picked. -/
structure KP (w0 w : World) (g : Nat) (f : Nat → Int) (v : Value) (ys : List Evt) : Prop where
  id : BRow w g 32 f
  es : Es 37 w0 w v ys
theorem KP.after {w0 w w' : World} {g : Nat} {f : Nat → Int} {v : Value} {ys : List Evt} (h : KP w0 w g f v ys) (hb : Below w.heap.size w w') : KP w0 w' g f v ys := ⟨h.id.after hb rfl, h.es.after hb⟩
set_option maxRecDepth 100000 in
set_option maxHeartbeats 8000000 in
theorem eventPicks_walk (ao : Option Addr) (cap : Nat) (xs : List Evt) (f : Nat → Int) (ko : Option Addr) (kc : Nat) (ks : List Int) (w : World) (hxs : xs.length ≤ cap ∧ cap ≤ maxLen ∧ Evs w ao xs ∧ ∀ x ∈ xs, Evt.Ok x) (_hf : ∀ j, 0 ≤ f j ∧ f j < 256) (hks : ks.length ≤ kc ∧ kc ≤ maxLen ∧ (ko = none → kc = 0) ∧ At w ko ks ∧ Byt ks) :
    Calls Try.prog 5 #[.slice ao xs.length cap, .agg (rowV 32 f).toArray, .slice ko ks.length kc] w fun e w' => e = .returned (.bool true) ∧ Below w.heap.size w w' := by
  obtain ⟨-, -, h1, h2⟩ := hxs
  obtain ⟨-, -, -, h3, h4⟩ := hks
  have HA := hide h1; have HO := hide h2; have HK := hide h3; have HKB := hide h4
  clear h1 h2 h3 h4
  have H0 := hide (hash_new w f 32 rfl)
  have B0 : Hid (Below w.heap.size w (w.alloc (.cells (rowV 32 f).toArray 32))) := bAl (bMe w)
  by_cases hl1 : xs.length ≤ 20
  · by_cases hl2 : ks.length ≤ 20
    · have hi1 : ¬ (20 : Int) < (xs.length : Int) := by omega
      have hi2 : ¬ (20 : Int) < (ks.length : Int) := by omega
      go_enter Try.func5, Try.ntmps5
      go_wp2_with fail
      generalize w.alloc (.cells (rowV 32 f).toArray 32) = w0 at *
      obtain ⟨g, hg⟩ : ∃ g, w.heap.size = g := ⟨_, rfl⟩
      rw [hg] at H0
      simp only [hg]
      clear hg
      refine (lives9_any w0).mono ?_
      rintro e w1 ⟨rfl, hb⟩
      replace B0 := hide (bOn B0.out hb)
      replace H0 := hide (H0.out.after hb rfl)
      clear hb
      go_wp2_with fail
      refine (refs9_any (HA.out.below B0.out) (by omega)).mono ?_
      rintro e w2 ⟨v, rfl, hv⟩
      obtain ⟨ro, rc, rfl, hev, -, -, -, -⟩ := hv.evs
      have ER := hide hev
      replace B0 := hide (bOn B0.out hv.below)
      replace H0 := hide (H0.out.after hv.below rfl)
      have P : Hid (KP w2 w2 g f (.slice none 0 0) []) := ⟨H0.out, Es.nil _ _⟩
      clear hv hev
      go_wp2
      go_loopg [8, 36] xs.length (fun gk s t wr => ∃ k : Nat, gk + k = xs.length ∧ t = .int .i64 k ∧ KP w2 wr g f s ((xs.take k).filter (pick9 f ks)))
      case atStart => exact ⟨0, by omega, rfl, P.out⟩
      case round =>
        clear P
        obtain ⟨k, hk, rfl, hp⟩ := hrel
        have P := hide hp; have HKK := hide hk
        clear hp hk
        by_cases hlt : k < xs.length
        · have hki : (k : Int) < (xs.length : Int) := by omega
          obtain ⟨x, hx⟩ : ∃ x, xs[k]? = some x := ⟨xs[k], by simp [hlt]⟩
          have HX := hide (HO.out x (List.mem_of_getElem? hx))
          obtain ⟨b, off, rfl, hr⟩ := (ER.out.below P.out.es.below).get hx
          have R : Hid (wr.rangeAt b (off + k * 47) (ec x)) := hr
          have HF := hide (filter_next hx (pick9 f ks))
          have hlk : ((xs.take k).filter (pick9 f ks)).length ≤ 100000 := by
            have h1 := List.length_filter_le (pick9 f ks) (xs.take k)
            have h2 : (xs.take k).length ≤ xs.length := by simp; omega
            omega
          clear hr hx
          go_wp2_with (refine wpList_load_mid rfl 37 _ rfl b (off + k * 47) rfl (ec x) _ R.out Try.underlying37 rfl (info_rev x) ?_)
          rw [storing_new wr _ 37 (ec x) (by rw [ec_length]; rfl) (ec_one _)]
          obtain ⟨V, B2⟩ := copiedR wr x
          have HV := hide V
          replace P := hide (P.out.after B2)
          clear V B2 R
          generalize (wr.alloc (.cells #[.int .u8 0, .int .u64 0, .int .u8 0, .int .u8 0, .int .u8 0, .int .u8 0, .int .u8 0, .int .u8 0, .int .u8 0, .int .u8 0, .int .u8 0, .int .u8 0, .int .u8 0, .int .u8 0, .int .u8 0, .int .u8 0, .int .u8 0, .int .u8 0, .int .u8 0, .int .u8 0, .int .u8 0, .int .u8 0, .int .u8 0, .int .u8 0, .int .u8 0, .int .u8 0, .int .u8 0, .int .u8 0, .int .u8 0, .int .u8 0, .int .u8 0, .int .u8 0, .int .u8 0, .int .u8 0, .int .u8 0, .int .u8 0, .int .u8 0, .int .u8 0, .int .u64 0, .int .u64 0, .int .u64 0, .int .u64 0, .int .u64 0, .int .u64 0, .int .u64 0, .int .u64 0, .int .u32 0] 37)).setCells wr.heap.size 0 (ec x) = w4 at *
          generalize wr.heap.size = gx at *
          generalize (xs.take k).filter (pick9 f ks) = ys at *
          obtain ⟨kn, hkn⟩ : ∃ kn : Nat, x.k = (kn : Int) := ⟨x.k.toNat, by have := HX.out.k; omega⟩
          have HKN := hide hkn
          have c0 := HV.out.cell 0 rfl
          rw [hkn] at c0
          clear hkn
          go_wp2
          go_loop [11, 42] (fun q t => ∃ j : Nat, j ≤ ks.length ∧ t = .int .i64 j ∧ q = .bool (among (ks.take j) kn)) (fun _ t => ks.length - (intOf t).toNat)
          case atStart => exact ⟨0, by omega, rfl, rfl⟩
          case round =>
            obtain ⟨j, hj, rfl, rfl⟩ := hrel
            by_cases hjt : j < ks.length
            · have hji : (j : Int) < (ks.length : Int) := by omega
              obtain ⟨d, hd⟩ : ∃ d, ks[j]? = some d := ⟨ks[j], by simp [hjt]⟩
              have HN := hide (among_next hd kn)
              obtain ⟨b2, off2, rfl, ck⟩ : ∃ b off, ko = some ⟨b, off, none⟩ ∧ w4.cell? ⟨b, off + j, none⟩ = some (.int .u8 d) := by
                rcases HK.out.below (bOn B0.out P.out.es.below) with h0 | ⟨b, off, e, hbl, hc⟩
                · rw [h0] at hjt; simp at hjt
                · exact ⟨b, off, e, by rw [hc j hjt, List.getD_eq_getElem?_getD, hd]; rfl⟩
              obtain ⟨q, hq⟩ : ∃ q, among (ks.take j) kn = q := ⟨_, rfl⟩
              rw [hq] at HN ⊢
              clear hd hq
              cases q with
              | true =>
                have HN2 : Hid (among (ks.take (j + 1)) kn = true) := by show _ = _; rw [HN.out]; rfl
                clear HN
                go_wp2
                go_round
                case rel => exact ⟨j + 1, by omega, by go_num, by rw [HN2.out]⟩
                case measure => simp [intOf]; omega
              | false =>
                by_cases hdk : d = (kn : Int)
                · have HN2 : Hid (among (ks.take (j + 1)) kn = true) := by show _ = _; rw [HN.out, hdk]; simp
                  subst hdk
                  clear HN
                  go_wp2
                  go_round
                  case rel => exact ⟨j + 1, by omega, by go_num, by rw [HN2.out]⟩
                  case measure => simp [intOf]; omega
                · have HN2 : Hid (among (ks.take (j + 1)) kn = false) := by show _ = _; rw [HN.out]; simpa using hdk
                  clear HN
                  go_wp2
                  go_round
                  case rel => exact ⟨j + 1, by omega, by go_num, by rw [HN2.out]; simp [hdk]⟩
                  case measure => simp [intOf]; omega
            · obtain rfl : j = ks.length := by omega
              rw [List.take_length]
              have HP : Hid (pick9 f ks x = (sameH x.h f && among ks kn)) := by show _ = _; unfold pick9; rw [HKN.out]; rfl
              have uh := Try.underlying32
              obtain ⟨q1, hq1⟩ : ∃ q, among ks kn = q := ⟨_, rfl⟩
              obtain ⟨q2, hq2⟩ : ∃ q, sameH x.h f = q := ⟨_, rfl⟩
              rw [hq1, hq2] at HP
              rw [hq1]
              clear hq1
              cases q1 with
              | false =>
                have HF2 : Hid ((xs.take (k + 1)).filter (pick9 f ks) = ys) := by show _ = _; rw [HF.out, HP.out]; simp
                clear HF HP hq2
                go_wp2
                go_roundg (xs.length - k - 1)
                case measure => have := HKK.out; omega
                case rel => exact ⟨k + 1, by omega, by go_num, by rw [HF2.out]; exact P.out⟩
              | true =>
                cases q2 with
                | false =>
                  have HF2 : Hid ((xs.take (k + 1)).filter (pick9 f ks) = ys) := by show _ = _; rw [HF.out, HP.out]; simp
                  clear HF HP
                  go_wp2_with (first
                    | (refine wpList_load_want 32 _ rfl gx 2 rfl (rowV 32 x.h) _ ?hr uh rfl (info_hsh _) (by rfl) ?_; (case hr => exact HV.out.h9))
                    | (refine wpList_load_want 32 _ rfl g 0 rfl (rowV 32 f) _ ?hr uh rfl (info_hsh _) (by rfl) ?_; (case hr => exact P.out.id.range)))
                  go_roundg (xs.length - k - 1)
                  case measure => have := HKK.out; omega
                  case rel => exact ⟨k + 1, by omega, by go_num, by rw [HF2.out]; exact P.out⟩
                | true =>
                  have HF2 : Hid ((xs.take (k + 1)).filter (pick9 f ks) = ys ++ [x]) := by show _ = _; rw [HF.out, HP.out]; simp
                  clear HF HP
                  go_wp2_with (first
                    | (refine wpList_load_want 32 _ rfl gx 2 rfl (rowV 32 x.h) _ ?hr uh rfl (info_hsh _) (by rfl) ?_; (case hr => exact HV.out.h9))
                    | (refine wpList_load_want 32 _ rfl g 0 rfl (rowV 32 f) _ ?hr uh rfl (info_hsh _) (by rfl) ?_; (case hr => exact P.out.id.range))
                    | (refine wpList_load_mid rfl 37 _ rfl gx 0 rfl (ec x) _ ?hr Try.underlying37 rfl (info_rev x) ?_; (case hr => exact HV.out.range))
                    | refine build_evR rfl _ rfl x rfl ?_
                    | (at_builtin; refine app_evR rfl _ _ rfl _ ys x rfl rfl P.out.es hlk ?_))
                  intro v' w6 hs1 hg1 hn1
                  have P2 : Hid (KP w2 w6 g f v' (ys ++ [x])) := ⟨H0.out.after hs1.below rfl, hs1⟩
                  clear hs1 hg1 hn1
                  go_wp2
                  go_roundg (xs.length - k - 1)
                  case measure => have := HKK.out; omega
                  case rel => exact ⟨k + 1, by omega, by go_num, by rw [HF2.out]; exact P2.out⟩
        · obtain rfl : k = xs.length := by have := HKK.out; omega
          rw [List.take_length] at P
          have uh := Try.underlying32
          obtain ⟨so, sc, rfl, hev, -, -, -, -⟩ := P.out.es.evs
          have EW := hide hev
          have BP : Hid (Below w.heap.size w wr) := bOn B0.out P.out.es.below
          have HID := hide P.out.id
          replace ER := hide (ER.out.below P.out.es.below)
          clear hev P H0 B0
          go_wp2_with (refine wpList_load_mid rfl 32 _ rfl g 0 rfl (rowV 32 f) _ ?hr uh rfl (info_hsh _) ?_; (case hr => exact HID.out.range))
          refine (of9_any f (HA.out.below BP.out) HO.out (by omega) (HK.out.below BP.out) HKB.out (by omega)).mono ?_
          rintro e w5 ⟨v5, rfl, hb, w5a, hv, hw5⟩
          obtain ⟨so5, sc5, rfl, hev, -, -, -, -⟩ := hv.evs
          have EG := hide hev
          replace EW := hide (EW.out.below hb)
          replace ER := hide (ER.out.below hb)
          replace BP := hide (bOn BP.out hb)
          have OP : Hid (∀ y ∈ xs.filter (pick9 f ks), Evt.Ok y) := fun y hy => HO.out y (List.mem_filter.1 hy).1
          have hfl : (xs.filter (pick9 f ks)).length ≤ 20 := Nat.le_trans (List.length_filter_le _ _) hl1
          clear hv hev hb hw5 HID
          generalize xs.filter (pick9 f ks) = zs at *
          go_wp2_with fail
          refine (same9_any EG.out EW.out OP.out OP.out (by omega) (by omega)).mono ?_
          rintro e w6 ⟨bb, rfl, hbb, hb⟩
          obtain rfl : bb = true := hbb.2 rfl
          replace EG := hide (EG.out.below hb)
          replace EW := hide (EW.out.below hb)
          replace ER := hide (ER.out.below hb)
          replace BP := hide (bOn BP.out hb)
          clear hbb hb
          go_wp2_with fail
          refine (same9_any (HA.out.below BP.out) ER.out HO.out HO.out (by omega) (by omega)).mono ?_
          rintro e w7 ⟨bb, rfl, hbb, hb⟩
          obtain rfl : bb = true := hbb.2 rfl
          replace EG := hide (EG.out.below hb)
          replace EW := hide (EW.out.below hb)
          replace BP := hide (bOn BP.out hb)
          clear hbb hb ER
          go_wp2_with fail
          refine (total9_any EG.out OP.out (by omega)).mono ?_
          rintro e w8 ⟨⟨s, c, rfl, hs⟩, hb⟩
          replace EW := hide (EW.out.below hb)
          replace BP := hide (bOn BP.out hb)
          have HSS := hide hs
          clear hb hs EG
          go_wp2_with fail
          have N1 := hide (Own.new w8 (lm s 0) (lm s 1) (lm s 2) (lm s 3) 34)
          have hsz8 : (w8.alloc (.cells #[.int .u64 (lm s 0), .int .u64 (lm s 1), .int .u64 (lm s 2), .int .u64 (lm s 3)] 34)).heap.size = w8.heap.size + 1 := by simp
          replace EW := hide (EW.out.below (bAl (o := .cells #[.int .u64 (lm s 0), .int .u64 (lm s 1), .int .u64 (lm s 2), .int .u64 (lm s 3)] 34) (bMe w8)))
          replace BP := hide (bAl (o := .cells #[.int .u64 (lm s 0), .int .u64 (lm s 1), .int .u64 (lm s 2), .int .u64 (lm s 3)] 34) BP.out)
          generalize w8.alloc (.cells #[.int .u64 (lm s 0), .int .u64 (lm s 1), .int .u64 (lm s 2), .int .u64 (lm s 3)] 34) = w9 at *
          clear hsz8
          generalize w8.heap.size = g8 at *
          refine (reftotal9_any EW.out OP.out (by omega)).mono ?_
          rintro e w10 ⟨hr, hb⟩
          replace N1 := hide (N1.out.after hb rfl)
          replace BP := hide (bOn BP.out hb)
          clear hb EW
          have hs4 : same4 (lm s 0) (lm s 1) (lm s 2) (lm s 3) (lm s 0) (lm s 1) (lm s 2) (lm s 3) = true := by unfold same4; simp
          obtain ⟨p0, c0, c1, c2, c3, p5⟩ := N1.out
          rcases hr with ⟨hin, rfl⟩ | ⟨hin, rfl⟩
          · rcases HSS.out with ⟨_, hs, hc⟩ | ⟨hno, _⟩
            · rw [← hs]
              subst hc
              clear hs hin HSS
              go_wp2
              go_ret
              exact ⟨rfl, bAl BP.out⟩
            · exact absurd hin hno
          · rcases HSS.out with ⟨hyes, _⟩ | ⟨_, hs, hc⟩
            · exact absurd hyes hin
            · subst hs hc
              clear hin HSS
              go_wp2
              go_ret
              exact ⟨rfl, bAl BP.out⟩
    · have hi1 : ¬ (20 : Int) < (xs.length : Int) := by omega
      have hi2 : (20 : Int) < (ks.length : Int) := by omega
      go_enter Try.func5, Try.ntmps5
      go_wp2_with fail
      generalize w.alloc (.cells (rowV 32 f).toArray 32) = w0 at *
      refine (lives9_any w0).mono ?_
      rintro e w1 ⟨rfl, hb⟩
      replace B0 := hide (bOn B0.out hb)
      clear hb H0
      go_wp2_with fail
      refine (lives9_any w1).mono ?_
      rintro e w2 ⟨rfl, hb⟩
      replace B0 := hide (bOn B0.out hb)
      clear hb
      go_wp2
      go_ret
      exact ⟨rfl, B0.out⟩
  · have hi1 : (20 : Int) < (xs.length : Int) := by omega
    go_enter Try.func5, Try.ntmps5
    go_wp2_with fail
    generalize w.alloc (.cells (rowV 32 f).toArray 32) = w0 at *
    refine (lives9_any w0).mono ?_
    rintro e w1 ⟨rfl, hb⟩
    replace B0 := hide (bOn B0.out hb)
    clear hb H0
    go_wp2_with fail
    refine (lives9_any w1).mono ?_
    rintro e w2 ⟨rfl, hb⟩
    replace B0 := hide (bOn B0.out hb)
    clear hb
    go_wp2
    go_ret
    exact ⟨rfl, B0.out⟩
end Go.Proofs.Ytajkdbpojeaflaa
