/- The walk of sponsionlaw09.EventRows over this translation. -/
import Derived.Test.YtajkdbpojeaflaaEvtMore
import Derived.Test.YtajkdbpojeaflaaEvtRead
import Derived.Test.YtajkdbpojeaflaaEvtSame
import Derived.Test.YtajkdbpojeaflaaEvtLives
import Derived.Test.YtajkdbpojeaflaaEvtText
import Derived.Test.YtajkdbpojeaflaaPackMore
namespace Go.Proofs.Ytajkdbpojeaflaa
open Go.RowKit Go.Lib
attribute [local go_sem] setCell_drewN alloc_drewN

set_option maxRecDepth 100000 in
set_option maxHeartbeats 8000000 in
theorem eventRows_walk (ao : Option Addr) (cap : Nat) (xs : List Evt) (w : World) (hbs : xs.length ≤ cap ∧ cap ≤ maxLen ∧ Evs w ao xs ∧ ∀ x ∈ xs, Evt.Ok x) :
    Calls Try.prog 3 #[.slice ao xs.length cap] w fun e w' => e = .returned (.bool true) ∧ Below w.heap.size w w' := by
  obtain ⟨-, -, h1, h2⟩ := hbs
  have HA := hide h1; have HO := hide h2
  clear h1 h2
  by_cases hlen : xs.length ≤ 20
  · have hli : ¬ (20 : Int) < (xs.length : Int) := by omega
    go_enter Try.func3, Try.ntmps3
    go_wp2_with fail
    refine (lives9_any w).mono ?_
    rintro e w0 ⟨rfl, hb⟩
    have B := hide hb
    clear hb
    go_wp2_with fail
    refine (bytes9_any (HA.out.below B.out) HO.out (by omega)).mono ?_
    rintro e w1 ⟨ha, hb⟩
    replace B := hide (bOn B.out hb)
    clear hb
    rcases ha with ⟨m1, va, rfl, hva⟩ | ⟨m1, rfl⟩
    · obtain ⟨ba, ca, rfl, -, -, ka⟩ := hva.cell
      have KA := hide ka
      have NA : Hid (ba = none → ca = 0) := hva.at.2
      have M1 := hide m1
      clear hva ka m1
      go_wp2_with fail
      refine (refs9_any (HA.out.below B.out) (by omega)).mono ?_
      rintro e w2 ⟨v, rfl, hv⟩
      obtain ⟨ro, rc, rfl, hev, -, -, -, -⟩ := hv.evs
      have ER := hide hev
      replace KA := hide (KA.out.below hv.below)
      replace B := hide (bOn B.out hv.below)
      have B2 : Hid (Below w2.heap.size w2 w2) := bMe w2
      clear hv hev
      go_wp2
      go_loopw [5, 28] (fun s t wr => ∃ k : Nat, k ≤ xs.length ∧ t = .int .i64 k ∧ s = .string (strOfNums (allE (xs.take k))) ∧ Below w2.heap.size w2 wr) (fun _ t _ => xs.length - (intOf t).toNat)
      case atStart => exact ⟨0, by omega, rfl, rfl, B2.out⟩
      case round =>
        clear B2
        obtain ⟨k, hk, rfl, rfl, hb⟩ := hrel
        have B2 := hide hb
        
        clear hb
        by_cases hlt : k < xs.length
        · have hki : (k : Int) < (xs.length : Int) := by omega
          obtain ⟨x, hx⟩ : ∃ x, xs[k]? = some x := ⟨xs[k], by simp [hlt]⟩
          have HX := hide (HO.out x (List.mem_of_getElem? hx))
          obtain ⟨b, off, rfl, hr⟩ := (ER.out.below B2.out).get hx
          have R : Hid (wr.rangeAt b (off + k * 47) (ec x)) := hr
          have HN := hide (allE_snoc hx)
          have HXK := hide hx
          have hsz : (strOfNums (allE (xs.take k))).size ≤ 3000 := by rw [strOfNums_size, allE_length]; simp; omega
          have hsz2 : (strOfNums (ebytes x)).size = 113 := by rw [strOfNums_size, ebytes_length]
          clear hr hx
          go_wp2_with (refine wpList_load_mid rfl 37 _ rfl b (off + k * 47) rfl (ec x) _ R.out Try.underlying37 rfl (info_rev x) ?_)
          rw [storing_new wr _ 37 (ec x) (by rw [ec_length]; rfl) (ec_one _)]
          obtain ⟨V, hb⟩ := copiedR wr x
          have HV := hide V
          replace B2 := hide (bOn B2.out hb)
          clear V hb R
          generalize (wr.alloc (.cells #[.int .u8 0, .int .u64 0, .int .u8 0, .int .u8 0, .int .u8 0, .int .u8 0, .int .u8 0, .int .u8 0, .int .u8 0, .int .u8 0, .int .u8 0, .int .u8 0, .int .u8 0, .int .u8 0, .int .u8 0, .int .u8 0, .int .u8 0, .int .u8 0, .int .u8 0, .int .u8 0, .int .u8 0, .int .u8 0, .int .u8 0, .int .u8 0, .int .u8 0, .int .u8 0, .int .u8 0, .int .u8 0, .int .u8 0, .int .u8 0, .int .u8 0, .int .u8 0, .int .u8 0, .int .u8 0, .int .u8 0, .int .u8 0, .int .u8 0, .int .u8 0, .int .u64 0, .int .u64 0, .int .u64 0, .int .u64 0, .int .u64 0, .int .u64 0, .int .u64 0, .int .u64 0, .int .u32 0] 37)).setCells wr.heap.size 0 (ec x) = w4 at *
          generalize wr.heap.size = gx at *
          obtain ⟨S, hS⟩ : ∃ S, strOfNums (allE (xs.take k)) = S := ⟨_, rfl⟩
          rw [hS] at hsz ⊢
          have HS := hide hS
          clear hS
          go_wp2_with (refine wpList_load_mid rfl 37 _ rfl gx 0 rfl (ec x) _ HV.out.range Try.underlying37 rfl (info_rev x) ?_)
          refine (may9_any x HX.out w4).mono ?_
          rintro e w5 ⟨rfl, hb⟩
          replace B2 := hide (bOn B2.out hb)
          replace HV := hide (HV.out.after hb rfl)
          clear hb
          go_wp2_with (first
            | refine wpList_load_mid rfl 37 _ rfl gx 0 rfl (ec x) _ HV.out.range Try.underlying37 rfl (info_rev x) ?_)
          refine (check9_any x HX.out w5).mono ?_
          rintro e w6 ⟨rfl, hb⟩
          replace B2 := hide (bOn B2.out hb)
          replace HV := hide (HV.out.after hb rfl)
          clear hb
          have hm : mayE x = true := by
            have := List.all_eq_true.1 M1.out x (List.mem_of_getElem? HXK.out)
            exact this
          rw [hm]
          have hc : chkE x = 0 := if_pos hm
          rw [hc]
          have HM := hide hm
          go_wp2_with (first
            | refine wpList_load_mid rfl 37 _ rfl gx 0 rfl (ec x) _ HV.out.range Try.underlying37 rfl (info_rev x) ?_)
          refine (text9_any x HX.out w6).mono ?_
          rintro e w7 ⟨rfl, hb⟩
          replace B2 := hide (bOn B2.out hb)
          clear hb hc
          go_wp2
          go_roundw
          case rel => exact ⟨k + 1, by omega, by go_num, by rw [HN.out, ← HS.out, str_append], B2.out⟩
          case measure => simp [intOf]; omega
        · obtain rfl : k = xs.length := by omega
          rw [List.take_length]
          have HR : Hid (rdE (allE xs) = (xs, 0)) := rdF_all xs _ (Nat.le_refl _) HO.out M1.out
          have HBY := hide (allE_byt HO.out)
          have HLA : Hid ((allE xs).length ≤ 2260) := by show _ ≤ _; rw [allE_length]; omega
          have KB : Hid (At wr ba (allE xs)) := KA.out.below B2.out
          have BW : Hid (Below w.heap.size w wr) := bOn B.out B2.out
          clear B2 KA
          go_wp2_with fail
          refine (read9_any ba ca (allE xs) KB.out NA.out HBY.out (by have := HLA.out; omega)).mono ?_
          rintro r w4 hrd
          rcases hrd with ⟨_, vm, rfl, hvm⟩ | ⟨h0, _⟩
          · rw [HR.out] at hvm
            simp only at hvm
            obtain ⟨so, sc, rfl, hev, -, -, -, -⟩ := hvm.evs
            have EM : Hid (Evs w4 so xs) := hev
            replace BW := hide (bOn BW.out hvm.below)
            have cv := (KB.out.below hvm.below).str ca
            clear hvm hev
            obtain ⟨S, hS⟩ : ∃ S, strOfNums (allE xs) = S := ⟨_, rfl⟩
            rw [hS] at cv ⊢
            clear hS
            go_wp2_with fail
            refine (refs9_any (HA.out.below BW.out) (by omega)).mono ?_
            rintro e w5 ⟨v2, rfl, hv2⟩
            obtain ⟨ro2, rc2, rfl, hev2, -, -, -, -⟩ := hv2.evs
            have E2 := hide hev2
            replace EM := hide (EM.out.below hv2.below)
            replace BW := hide (bOn BW.out hv2.below)
            clear hv2 hev2 cv
            go_wp2_with fail
            refine (same9_any EM.out E2.out HO.out HO.out (by omega) (by omega)).mono ?_
            rintro e w6 ⟨bb, rfl, hb, hbw⟩
            obtain rfl : bb = true := hb.2 rfl
            replace BW := hide (bOn BW.out hbw)
            clear hb hbw
            go_wp2
            go_ret
            exact ⟨rfl, BW.out⟩
          · exact absurd (by rw [HR.out]) h0
    · have M1 := hide m1
      clear m1
      go_wp2_with fail
      refine (refs9_any (HA.out.below B.out) (by omega)).mono ?_
      rintro e w2 ⟨v, rfl, hv⟩
      obtain ⟨ro, rc, rfl, hev, -, -, -, -⟩ := hv.evs
      have ER := hide hev
      replace B := hide (bOn B.out hv.below)
      have B2 : Hid (Below w2.heap.size w2 w2) := bMe w2
      clear hv hev
      go_wp2
      go_loopw [5, 28] (fun s t wr => ∃ k : Nat, k ≤ xs.length ∧ t = .int .i64 k ∧ s = .string (strOfNums (allE (xs.take k))) ∧ (xs.take k).all mayE = true ∧ Below w2.heap.size w2 wr) (fun _ t _ => xs.length - (intOf t).toNat)
      case atStart => exact ⟨0, by omega, rfl, rfl, rfl, B2.out⟩
      case round =>
        clear B2
        obtain ⟨k, hk, rfl, rfl, hal, hb⟩ := hrel
        have B2 := hide hb
        have HAL := hide hal
        clear hb hal
        by_cases hlt : k < xs.length
        · have hki : (k : Int) < (xs.length : Int) := by omega
          obtain ⟨x, hx⟩ : ∃ x, xs[k]? = some x := ⟨xs[k], by simp [hlt]⟩
          have HX := hide (HO.out x (List.mem_of_getElem? hx))
          obtain ⟨b, off, rfl, hr⟩ := (ER.out.below B2.out).get hx
          have R : Hid (wr.rangeAt b (off + k * 47) (ec x)) := hr
          have HN := hide (allE_snoc hx)
          have HXK := hide hx
          have hsz : (strOfNums (allE (xs.take k))).size ≤ 3000 := by rw [strOfNums_size, allE_length]; simp; omega
          have hsz2 : (strOfNums (ebytes x)).size = 113 := by rw [strOfNums_size, ebytes_length]
          clear hr hx
          go_wp2_with (refine wpList_load_mid rfl 37 _ rfl b (off + k * 47) rfl (ec x) _ R.out Try.underlying37 rfl (info_rev x) ?_)
          rw [storing_new wr _ 37 (ec x) (by rw [ec_length]; rfl) (ec_one _)]
          obtain ⟨V, hb⟩ := copiedR wr x
          have HV := hide V
          replace B2 := hide (bOn B2.out hb)
          clear V hb R
          generalize (wr.alloc (.cells #[.int .u8 0, .int .u64 0, .int .u8 0, .int .u8 0, .int .u8 0, .int .u8 0, .int .u8 0, .int .u8 0, .int .u8 0, .int .u8 0, .int .u8 0, .int .u8 0, .int .u8 0, .int .u8 0, .int .u8 0, .int .u8 0, .int .u8 0, .int .u8 0, .int .u8 0, .int .u8 0, .int .u8 0, .int .u8 0, .int .u8 0, .int .u8 0, .int .u8 0, .int .u8 0, .int .u8 0, .int .u8 0, .int .u8 0, .int .u8 0, .int .u8 0, .int .u8 0, .int .u8 0, .int .u8 0, .int .u8 0, .int .u8 0, .int .u8 0, .int .u8 0, .int .u64 0, .int .u64 0, .int .u64 0, .int .u64 0, .int .u64 0, .int .u64 0, .int .u64 0, .int .u64 0, .int .u32 0] 37)).setCells wr.heap.size 0 (ec x) = w4 at *
          generalize wr.heap.size = gx at *
          obtain ⟨S, hS⟩ : ∃ S, strOfNums (allE (xs.take k)) = S := ⟨_, rfl⟩
          rw [hS] at hsz ⊢
          have HS := hide hS
          clear hS
          go_wp2_with (refine wpList_load_mid rfl 37 _ rfl gx 0 rfl (ec x) _ HV.out.range Try.underlying37 rfl (info_rev x) ?_)
          refine (may9_any x HX.out w4).mono ?_
          rintro e w5 ⟨rfl, hb⟩
          replace B2 := hide (bOn B2.out hb)
          replace HV := hide (HV.out.after hb rfl)
          clear hb
          go_wp2_with (first
            | refine wpList_load_mid rfl 37 _ rfl gx 0 rfl (ec x) _ HV.out.range Try.underlying37 rfl (info_rev x) ?_)
          refine (check9_any x HX.out w5).mono ?_
          rintro e w6 ⟨rfl, hb⟩
          replace B2 := hide (bOn B2.out hb)
          replace HV := hide (HV.out.after hb rfl)
          clear hb
          cases hm : mayE x with
          | true =>
            have hc : chkE x = 0 := if_pos hm
            rw [hc]
            have HM := hide hm
            go_wp2_with (first
              | refine wpList_load_mid rfl 37 _ rfl gx 0 rfl (ec x) _ HV.out.range Try.underlying37 rfl (info_rev x) ?_)
            refine (text9_any x HX.out w6).mono ?_
            rintro e w7 ⟨rfl, hb⟩
            replace B2 := hide (bOn B2.out hb)
            clear hb hc
            go_wp2
            go_roundw
            case rel => exact ⟨k + 1, by omega, by go_num, by rw [HN.out, ← HS.out, str_append], all_snoc HXK.out HAL.out HM.out, B2.out⟩
            case measure => simp [intOf]; omega
          | false =>
            have hc : chkE x = 6 := if_neg (by simp [hm])
            rw [hc]
            go_wp2
            go_ret
            exact ⟨rfl, bOn B.out B2.out⟩
        · obtain rfl : k = xs.length := by omega
          have := HAL.out
          rw [List.take_length, M1.out] at this
          cases this
  · have hli : (20 : Int) < (xs.length : Int) := by omega
    go_enter Try.func3, Try.ntmps3
    go_wp2_with fail
    refine (lives9_any w).mono ?_
    rintro e w1 ⟨rfl, hb⟩
    have B := hide hb
    clear hb
    go_wp2_with fail
    refine (lives9_any w1).mono ?_
    rintro e w2 ⟨rfl, hb⟩
    replace B := hide (bOn B.out hb)
    clear hb
    go_wp2
    go_ret
    exact ⟨rfl, B.out⟩
end Go.Proofs.Ytajkdbpojeaflaa
