/- The walk of sponsionlaw10.TreePlays over this translation (written by gen-treeplayslaw.py). -/
import Derived.Test.YtlkmebimgpigjaaDoorTreePlay
import Derived.Test.YtlkmebimgpigjaaDoorTreeLives
import Derived.Test.YtlkmebimgpigjaaDoorClassy
import Derived.OpenShut
namespace Go.Proofs.YtlkmebimgpigjaaDoor
open Go.RowKit Go.Lib
attribute [local go_sem] setCell_drewN alloc_drewN eqHash sameH_self

theorem hz_eqP (w : World) : (Op.equalIn 10000 32 (.agg (rowV 32 hz).toArray) (.agg #[.int .u8 0, .int .u8 0, .int .u8 0, .int .u8 0, .int .u8 0, .int .u8 0, .int .u8 0, .int .u8 0, .int .u8 0, .int .u8 0, .int .u8 0, .int .u8 0, .int .u8 0, .int .u8 0, .int .u8 0, .int .u8 0, .int .u8 0, .int .u8 0, .int .u8 0, .int .u8 0, .int .u8 0, .int .u8 0, .int .u8 0, .int .u8 0, .int .u8 0, .int .u8 0, .int .u8 0, .int .u8 0, .int .u8 0, .int .u8 0, .int .u8 0, .int .u8 0])).run Tryd.prog w = .ok true w := by
  have h := eqHash hz hz w
  rw [sameH_self] at h
  exact h
/-- What stands while the leaves are held against the tree's. -/
structure PT (w0 w : World) (gt : Nat) (S : Nat → Prop) (d : Nat) (L : List Hs) (ao : Option Addr) : Prop where
  tree : Tr w gt S d L
  lv : Hl w ao L
  below : Below w0.heap.size w0 w
theorem PT.after {w0 w w' : World} {gt : Nat} {S : Nat → Prop} {d : Nat} {L : List Hs} {ao : Option Addr} (x : PT w0 w gt S d L ao) (hb : Below w.heap.size w w') : PT w0 w' gt S d L ao := ⟨x.tree.below hb, x.lv.below hb, bOn x.below hb⟩
theorem ret_boolQ {a b : Bool} (h : a = b) : Ending.returned (.bool a) = .returned (.bool b) := by rw [h]
theorem new_boxP {w : World} (F : Hs) : Below w.heap.size w ((w.alloc (.cells #[.int .u8 0, .int .u8 0, .int .u8 0, .int .u8 0, .int .u8 0, .int .u8 0, .int .u8 0, .int .u8 0, .int .u8 0, .int .u8 0, .int .u8 0, .int .u8 0, .int .u8 0, .int .u8 0, .int .u8 0, .int .u8 0, .int .u8 0, .int .u8 0, .int .u8 0, .int .u8 0, .int .u8 0, .int .u8 0, .int .u8 0, .int .u8 0, .int .u8 0, .int .u8 0, .int .u8 0, .int .u8 0, .int .u8 0, .int .u8 0, .int .u8 0, .int .u8 0] 32)).setCells w.heap.size 0 (rowV 32 F)) := setCells_below (bAl (bMe w)) (Nat.le_refl _) _ _
theorem PT.yes {w0 w : World} {gt : Nat} {S : Nat → Prop} {d : Nat} {L : List Hs} {ao : Option Addr} (q : PT w0 w gt S d L ao) (i : Nat) {x : Hs} (hx : L[i]? = some x) :
    Calls Tryd.prog 13 #[.pointer (some ⟨gt, 0, none⟩), .int .u64 i] w fun e w' => e = .returned (.tuple #[.agg (rowV 32 x).toArray, .bool true]) ∧ Below w.heap.size w w' :=
  leaf_yes q.tree.box (by rw [lv_zero]; have := q.tree.few; omega) (by rw [lv_zero]; exact hx)
theorem PT.no {w0 w : World} {gt : Nat} {S : Nat → Prop} {d : Nat} {L : List Hs} {ao : Option Addr} (q : PT w0 w gt S d L ao) {i : Int} (hi : (L.length : Int) ≤ i) :
    Calls Tryd.prog 13 #[.pointer (some ⟨gt, 0, none⟩), .int .u64 i] w fun e w' => e = .returned (.tuple #[.agg (rowV 32 hz).toArray, .bool false]) ∧ Below w.heap.size w w' :=
  leaf_no q.tree.box (by rw [lv_zero]; have := q.tree.few; omega) (by rw [lv_zero]; exact hi)
set_option maxRecDepth 100000 in
set_option maxHeartbeats 8000000 in
theorem treePlays_walk (a : Int) (xo : Option Addr) (xcap : Nat) (xs : List Ac) (i : Int) (w : World) (_ha : (Lit.int .i64 a).wf = true) (hx : xs.length ≤ xcap ∧ xcap ≤ maxLen ∧ Acts w xo xs ∧ ∀ x ∈ xs, Ac.Ok x) (hi : (Lit.int .u64 i).wf = true)
    (ht : Tab w 1) (ht2 : Tab w 0) :
    Calls Tryd.prog 3 #[.int .i64 a, .slice xo xs.length xcap, .int .u64 i] w fun e w' => e = .returned (.bool true) ∧ Below w.heap.size w w' := by
  obtain ⟨x1, x2, x3, x4⟩ := hx
  have HT := hide ht; have HT2 := hide ht2; have HX := hide x3; have HOK := hide x4
  unfold maxLen at x2
  have hli : (xs.length : Int) ≤ 9223372036854775807 := by omega
  obtain ⟨i0, i1⟩ := Go.bounds_u64 hi
  clear ht ht2 x3 x4 hi
  by_cases hlen : xs.length ≤ 40
  · have hl2 : ¬ (40 : Int) < (xs.length : Int) := by omega
    have HXL := hide hlen
    by_cases hout : a < 0 ∨ 32 < a
    · have HOUT := hide hout
      have hsp : a < 0 ∨ (¬ a < 0 ∧ 32 < a) := by omega
      clear hout
      rcases hsp with h0 | ⟨h0, h1⟩
      all_goals
        go_enter Tryd.func3, Tryd.ntmps3
        go_wp2_with fail
        refine (lives10_any HT.out).mono ?_
        rintro e w2 ⟨rfl, hb⟩
        have B := hide hb
        clear hb
        go_wp2_with fail
        refine (new_out a HOUT.out).mono ?_
        rintro e w3 ⟨rfl, hw3⟩
        have hw4 := hw3.symm
        clear hw3
        subst hw4
        go_wp2
        go_ret
        exact ⟨rfl, B.out⟩
    · obtain ⟨d, hd⟩ : ∃ d : Nat, a = (d : Int) := ⟨a.toNat, by omega⟩
      subst hd
      have hd32 : d ≤ 32 := by omega
      have hdi : (d : Int) ≤ 32 := by omega
      have HD := hide hd32
      clear hout
      go_enter Tryd.func3, Tryd.ntmps3
      go_wp2_with fail
      refine (lives10_any HT.out).mono ?_
      rintro e w2 ⟨rfl, hb⟩
      have B := hide hb
      clear hb
      go_wp2_with fail
      refine (tnew_any d hd32).mono ?_
      rintro e w3 ⟨rfl, hbox, hb⟩
      have T3 := hide (Tr.new hd32 hbox)
      have B3 := hide (bOn B.out hb)
      have HLO : Hid (∀ k, k = w2.heap.size → w.heap.size ≤ k) := fun k hk => by rw [hk]; exact B.out.size
      clear hbox hb
      go_wp2_with fail
      refine (play_any hd32 T3.out HLO.out B3.out xo xcap xs HX.out HOK.out HXL.out HT.out).mono ?_
      rintro e w4 ⟨gt, ao, cap, L, gx, rfl, hq, hL⟩
      obtain ⟨S, hT, _⟩ := hq.tree
      have Q : Hid (PT w w4 gt S d L ao) := ⟨hT, hq.lv.lies, hq.below⟩
      have HLL : Hid (L.length ≤ 40) := by show _ ≤ _; omega
      have hLi : (L.length : Int) ≤ 40 := by omega
      have hzq := fun w => hz_eqP w
      obtain ⟨N, hN⟩ : ∃ N, tn L d 0 = N := ⟨_, rfl⟩
      have hr := fun (w : World) (h1 : Tab w 0) (h2 : Hl w ao L) => rNode_any (cap := cap) (by have := HLL.out; omega) hT.ok d hd32 (w := w) h1 0 h2 (by
        have h3 : 2 ^ d ≤ 2 ^ 32 := Nat.pow_le_pow_right (by omega) hd32
        omega)
      rw [hN] at hr
      have HREF := hide hr
      have HN := hide hN
      clear hq hT T3 B3 HLO B hL hr hN
      go_wp2_with (go_at_call 10; refine (depth_any Q.out.tree.box).mono ?_; rintro e5 w5 ⟨rfl, hw5⟩; have hw6 := hw5.symm; clear hw5; subst hw6)
      refine (root_any Q.out.tree (HT.out.below Q.out.below)).mono ?_
      rintro e w5 ⟨rfl, hb⟩
      rw [HN.out]
      replace Q := hide (Q.out.after hb)
      clear hb
      go_wp2_with fail
      refine (HREF.out w5 (HT2.out.below Q.out.below) Q.out.lv).mono ?_
      rintro e w6 ⟨rfl, hb⟩
      replace Q := hide (Q.out.after hb)
      clear hb HREF
      go_wp2
      go_loopg [60] L.length (fun gk t wr => ∃ k : Nat, gk + k = L.length ∧ t = .int .i64 k ∧ PT w wr gt S d L ao)
      case atStart => exact ⟨0, by omega, rfl, Q.out⟩
      case round =>
        obtain ⟨k, hk, rfl, hq⟩ := hrel
        clear Q
        have Q := hide hq; have HK := hide hk
        clear hq hk
        by_cases hlt : k < L.length
        · have hki : (k : Int) < (L.length : Int) := by omega
          have hwk : IntKind.u64.wrap (k : Int) = (k : Int) := by rw [IntKind.wrap_u64]; omega
          obtain ⟨x, hx⟩ : ∃ x, L[k]? = some x := ⟨L[k], by simp [hlt]⟩
          obtain ⟨b, off, hab, _, hra⟩ := Q.out.lv.get hx
          have HRA := hide hra
          have HXK := hide hx
          have RN := hide (BRow.zeros32 wr (g := wr.heap.size) rfl)
          clear hra hx
          subst hab
          go_wp2_with (first
            | refine wpList_load_mid rfl 32 _ rfl b (off + k * 32) rfl (rowV 32 x) _ HRA.out Tryd.underlying32 rfl (info_hash32 _) ?_
            | refine wpList_store_stop rfl 32 _ _ rfl wr.heap.size 0 (rowV 32 x) rfl rfl (RN.out.thereA x) (info_hash32A x) (rowV_oneA _ _) ?_)
          intro w7 hw7
          have E7 : Hid (PT w w7 gt S d L (some ⟨b, off, none⟩) ∧ BRow w7 wr.heap.size 32 x) := by
            show _ ∧ _
            rw [hw7.out]
            exact ⟨Q.out.after (new_boxP x), RN.out.stored x⟩
          clear hw7 RN Q HRA
          generalize wr.heap.size = g1 at *
          go_wp2_with fail
          refine (E7.out.1.yes k HXK.out).mono ?_
          rintro e w8 ⟨rfl, hb⟩
          have E8 : Hid (PT w w8 gt S d L (some ⟨b, off, none⟩) ∧ BRow w8 g1 32 x) := ⟨E7.out.1.after hb, E7.out.2.after hb rfl⟩
          clear hb E7
          have R8 := hide (BRow.zeros32 w8 (g := w8.heap.size) rfl)
          go_wp2_with (refine wpList_store_stop rfl 32 _ _ rfl w8.heap.size 0 (rowV 32 x) rfl rfl (R8.out.thereA x) (info_hash32A x) (rowV_oneA _ _) ?_)
          intro w9 hw9
          have E9 : Hid (PT w w9 gt S d L (some ⟨b, off, none⟩) ∧ BRow w9 g1 32 x ∧ BRow w9 w8.heap.size 32 x) := by
            show _ ∧ _ ∧ _
            rw [hw9.out]
            exact ⟨E8.out.1.after (new_boxP x), E8.out.2.after (new_boxP x) rfl, R8.out.stored x⟩
          clear hw9 R8 E8
          generalize w8.heap.size = g2 at *
          go_wp2_with (first
            | refine wpList_load_want 32 _ rfl g2 0 rfl (rowV 32 x) _ E9.out.2.2.range Tryd.underlying32 rfl (info_hash32 _) rfl ?_
            | refine wpList_load_want 32 _ rfl g1 0 rfl (rowV 32 x) _ E9.out.2.1.range Tryd.underlying32 rfl (info_hash32 _) rfl ?_)
          go_roundg (L.length - k - 1)
          case measure => have := HK.out; omega
          case rel => exact ⟨k + 1, by omega, by go_num, E9.out.1⟩
        · obtain rfl : k = L.length := by have := HK.out; omega
          by_cases hil : i < (L.length : Int)
          · obtain ⟨i', hi'⟩ : ∃ i' : Nat, i = (i' : Int) := ⟨i.toNat, by omega⟩
            subst hi'
            obtain ⟨x, hx⟩ : ∃ x, L[i']? = some x := ⟨L[i']'(by omega), by rw [List.getElem?_eq_getElem]⟩
            have HXK := hide hx
            clear hx
            go_wp2_with fail
            refine (Q.out.yes i' HXK.out).mono ?_
            rintro e w8 ⟨rfl, hb⟩
            replace Q := hide (Q.out.after hb)
            clear hb
            have R8 := hide (BRow.zeros32 w8 (g := w8.heap.size) rfl)
            go_wp2_with (refine wpList_store_stop rfl 32 _ _ rfl w8.heap.size 0 (rowV 32 x) rfl rfl (R8.out.thereA x) (info_hash32A x) (rowV_oneA _ _) ?_)
            intro w9 hw9
            have E9 : Hid (Below w.heap.size w w9) := by
              show Below _ _ _
              rw [hw9.out]
              exact bOn Q.out.below (new_boxP x)
            clear hw9 R8 Q
            generalize w8.heap.size = g2 at *
            go_wp2
            go_ret
            exact ⟨rfl, E9.out⟩
          · have hin : (L.length : Int) ≤ i := by omega
            have HDC : Hid ((!decide (i < (L.length : Int))) = true) := by show _ = _; simp; omega
            go_wp2_with fail
            refine (Q.out.no hin).mono ?_
            rintro e w8 ⟨rfl, hb⟩
            replace Q := hide (Q.out.after hb)
            clear hb
            have R8 := hide (BRow.zeros32 w8 (g := w8.heap.size) rfl)
            go_wp2_with (refine wpList_store_stop rfl 32 _ _ rfl w8.heap.size 0 (rowV 32 hz) rfl rfl (R8.out.thereA hz) (info_hash32A hz) (rowV_oneA _ _) ?_)
            intro w9 hw9
            have E9 : Hid (Below w.heap.size w w9 ∧ BRow w9 w8.heap.size 32 hz) := by
              show _ ∧ _
              rw [hw9.out]
              exact ⟨bOn Q.out.below (new_boxP hz), R8.out.stored hz⟩
            clear hw9 R8 Q
            generalize w8.heap.size = g2 at *
            go_wp2_with (first
              | refine wpList_load_want 32 _ rfl g2 0 rfl (rowV 32 hz) _ E9.out.2.range Tryd.underlying32 rfl (info_hash32 _) rfl ?_)
            go_ret
            exact ⟨ret_boolQ HDC.out, E9.out.1⟩
  · have hl2 : (40 : Int) < (xs.length : Int) := by omega
    go_enter Tryd.func3, Tryd.ntmps3
    go_wp2_with fail
    refine (lives10_any HT.out).mono ?_
    rintro e w2 ⟨rfl, hb⟩
    have B := hide hb
    clear hb
    go_wp2_with fail
    refine (lives10_any (HT.out.below B.out)).mono ?_
    rintro e w3 ⟨rfl, hb⟩
    replace B := hide (bOn B.out hb)
    clear hb
    go_wp2
    go_ret
    exact ⟨rfl, B.out⟩
end Go.Proofs.YtlkmebimgpigjaaDoor
