/- sponsionlaw14.PairNonces is true. -/
import Derived.Test.YtncnilplmklccaaPrMem
namespace Go.Proofs.Ytncnilplmklccaa
set_option linter.unusedSimpArgs false
set_option linter.unusedVariables false
open Go.RowKit Go.Lib
attribute [local go_sem] setCell_drewN alloc_drewN

theorem nonces14do_any (w : World) : Calls Try.prog 12 #[] w fun e w' => e = .returned (.int .i64 0) ∧ w' = w := by
  go_enter Try.func12, Try.ntmps12
  go_wp2
  go_ret
  exact ⟨rfl, rfl⟩
theorem enters_nonces : ∀ w, (callFunc 12 #[]).run Try.prog w = .ok (.enter 12 #[]) w := fun w => enters_of Try.func12 (by kernel_rfl) rfl #[] w
/-- A pair, and a box with its next nonces. -/
structure NcS (w0 w : World) (bp g : Nat) (N : List Int) (i : Nat) : Prop where
  pq : PQ w0 w bp (fun _ => []) N (fun k => k = g)
  row : VRow w g (uV N)
  le : ∀ x ∈ N, x ≤ i
theorem NcS.drew {w0 w : World} {bp g i : Nat} {N : List Int} (h : NcS w0 w bp g N i) : NcS w0 w.drew bp g N i := ⟨h.pq.below (bMe w).drew, h.row.of (Nat.le_refl _) rfl, h.le⟩
set_option maxHeartbeats 4000000 in
theorem pairNonces_walk (ao : Option Addr) (cap : Nat) (l : List Int) (ao2 : Option Addr) (cap2 : Nat) (l2 : List Int) (w : World) (hl : l.length ≤ cap ∧ cap ≤ maxLen ∧ Vls w ao (bV l) ∧ ∀ x ∈ l, 0 ≤ x ∧ x < 256) (hl2 : l2.length ≤ cap2 ∧ cap2 ≤ maxLen ∧ Vls w ao2 (uV l2) ∧ ∀ x ∈ l2, 0 ≤ x ∧ x < 18446744073709551616) :
    Calls Try.prog 4 #[.slice ao l.length cap, .slice ao2 l2.length cap2] w fun e w' => e = .returned (.bool true) ∧ Below w.heap.size w w' := by
  by_cases hs : 60 < l.length ∨ l2.length < l.length
  · rcases hs with h1 | h1
    · have h2 : (60 : Int) < l.length := by omega
      go_enter Try.func4, Try.ntmps4
      go_wp2_with fail
      refine (lives14_any w).mono ?_
      rintro e w1 ⟨rfl, hb1⟩
      go_wp2_with fail
      refine (lives14_any w1).mono ?_
      rintro e w2 ⟨rfl, hb2⟩
      go_wp2
      go_ret
      exact ⟨rfl, bOn hb1 hb2⟩
    · by_cases h3 : 60 < l.length
      · have h2 : (60 : Int) < l.length := by omega
        go_enter Try.func4, Try.ntmps4
        go_wp2_with fail
        refine (lives14_any w).mono ?_
        rintro e w1 ⟨rfl, hb1⟩
        go_wp2_with fail
        refine (lives14_any w1).mono ?_
        rintro e w2 ⟨rfl, hb2⟩
        go_wp2
        go_ret
        exact ⟨rfl, bOn hb1 hb2⟩
      · have h2 : (l.length : Int) ≤ 60 := by omega
        have h4 : (l2.length : Int) < l.length := by omega
        go_enter Try.func4, Try.ntmps4
        go_wp2_with fail
        refine (lives14_any w).mono ?_
        rintro e w1 ⟨rfl, hb1⟩
        go_wp2_with fail
        refine (lives14_any w1).mono ?_
        rintro e w2 ⟨rfl, hb2⟩
        go_wp2
        go_ret
        exact ⟨rfl, bOn hb1 hb2⟩
  · have h2 : (l.length : Int) ≤ 60 := by omega
    have h4 : (l.length : Int) ≤ l2.length := by omega
    go_enter Try.func4, Try.ntmps4
    go_wp2_with fail
    refine (lives14_any w).mono ?_
    rintro e w1 ⟨rfl, hb1⟩
    have HN := hide (new14_any hb1 (Fr := fun _ => False) (fun k h => h.elim))
    obtain ⟨bp, hbp⟩ : ∃ bp, w1.heap.size = bp := ⟨_, rfl⟩
    rw [hbp] at HN
    go_wp2_with fail
    refine HN.out.mono ?_
    clear HN
    rintro e w2 ⟨rfl, p2, _⟩
    have P2 := hide p2
    clear p2
    obtain ⟨g, hg⟩ : ∃ g, w2.heap.size = g := ⟨_, rfl⟩
    obtain ⟨w3, hw3⟩ : ∃ w3, w2.alloc (.cells #[.int .u64 0, .int .u64 0, .int .u64 0, .int .u64 0, .int .u64 0, .int .u64 0, .int .u64 0, .int .u64 0, .int .u64 0, .int .u64 0, .int .u64 0, .int .u64 0, .int .u64 0, .int .u64 0, .int .u64 0, .int .u64 0] 37) = w3 := ⟨_, rfl⟩
    have S3 : Hid (NcS w w3 bp g (List.replicate 16 0) 0) := by
      rw [← hw3, ← hg]
      refine hide ⟨(P2.out.add (F := fun k => k = w2.heap.size) (bAl (bMe w2)) fun k hk => by subst hk; simp).sub fun k hk => .inr hk, VRow.box w2 (uV (List.replicate 16 0)) _ rfl, fun x hx => ?_⟩
      have := (List.mem_replicate.1 hx).2
      omega
    have HGW : Hid (w.heap.size ≤ g) := by rw [← hg]; exact P2.out.be.size
    have HV := hide (And.intro hl.2.2.1 hl2.2.2.1)
    have HY := hide (And.intro hl.2.2.2 hl2.2.2.2)
    clear hl hl2 P2
    go_wp2
    try rw [hg]
    clear hw3 hg
    go_loopw [30] (fun q wr => ∃ (i : Nat) (N : List Int), i ≤ l.length ∧ q = .int .i64 i ∧ NcS w wr bp g N i) (fun q _ => (l.length - intOf q).toNat)
    case atStart => exact ⟨0, _, Nat.zero_le _, rfl, S3.out⟩
    case round =>
      obtain ⟨i, N, hi, rfl, hn⟩ := hrel
      clear S3
      by_cases hlt : i < l.length
      · have hlt1 : (i : Int) < l.length := by omega
        have hlt2 : (i : Int) < l2.length := by omega
        obtain ⟨y, hy⟩ : ∃ y, l[i]? = some y := ⟨l[i], List.getElem?_eq_getElem hlt⟩
        obtain ⟨z, hz⟩ : ∃ z, l2[i]? = some z := ⟨l2[i]'(by omega), List.getElem?_eq_getElem (by omega)⟩
        obtain ⟨b, off, rfl, lb, cb⟩ := HV.out.1.got hn.pq.be (bV_get hy)
        obtain ⟨b2, off2, rfl, lb2, cb2⟩ := HV.out.2.got hn.pq.be (uV_get hz)
        have hyb := HY.out.1 y (List.mem_of_getElem? hy)
        have hzb := HY.out.2 z (List.mem_of_getElem? hz)
        obtain ⟨f, hf⟩ : ∃ f : Nat, y.tmod 16 = (f : Int) := ⟨(y.tmod 16).toNat, by rw [Int.tmod_eq_emod_of_nonneg hyb.1]; omega⟩
        have hf16 : f < 16 := by rw [Int.tmod_eq_emod_of_nonneg hyb.1] at hf; omega
        have hf1 : (f : Int) < 16 := by omega
        obtain ⟨x, hx⟩ : ∃ x, N[f]? = some x := ⟨N[f]'(by rw [hn.pq.nl]; omega), List.getElem?_eq_getElem _⟩
        have hxb := hn.pq.nb x (List.mem_of_getElem? hx)
        have hxi := hn.le x (List.mem_of_getElem? hx)
        have cx := hn.row.cell f (uV_get hx)
        have hw1 : IntKind.u64.wrap (x + 2) = x + 2 := by rw [IntKind.wrap_u64]; omega
        obtain ⟨m, hm⟩ : ∃ m : Int, z.tmod (x + 2) = m := ⟨_, rfl⟩
        have hx2 : x + 2 ≠ 0 := by omega
        have HN := hide hn
        have HG := hide HGW.out
        clear hn
        go_wp2
        go_region
        by_cases hmx : m = x
        · subst hmx
          have CT := hide (tryOk_any enters_nonces nonces14do_any (HN.out.pq.below (bMe wr).drew) hf16 hx (by omega))
          go_wp2_with fail
          refine CT.out.mono ?_
          clear CT
          rintro e w4 ⟨rfl, p4, k4⟩
          have HN2 : Hid (NcS w (w4.setCell ⟨g, f, none⟩ (.int .u64 (m + 1))) bp g (N.set f (m + 1)) (i + 1)) := by
            have r4 : VRow w4 g (uV N) := HN.out.row.of k4.1 (k4.2 g rfl)
            refine hide ⟨p4.box rfl HG.out (r4.cell 0 (uV_get (List.getElem?_eq_getElem (by have := HN.out.pq.nl; omega)))) (fun b e => by cases e) _, ?_, fun q hq => ?_⟩
            · have := r4.put (j := f) (by simp [uV, HN.out.pq.nl]; omega) (.int .u64 (m + 1))
              rwa [show (uV N).set f (.int .u64 (m + 1)) = uV (N.set f (m + 1)) by simp [uV, List.map_set]] at this
            · rcases List.mem_or_eq_of_mem_set hq with e | rfl
              · have := HN.out.le q e; omega
              · omega
          have c4 : w4.cell? ⟨g, f, none⟩ = some (.int .u64 m) := (k4.cell rfl).trans cx
          have f4 : w4.frozen? ⟨g, f, none⟩ = false := (k4.frozen rfl).trans (HN.out.row.fr f)
          have hw2 : IntKind.u64.wrap (m + 1) = m + 1 := by rw [IntKind.wrap_u64]; omega
          clear p4 k4
          go_wp2
          clear c4 f4 cx cb cb2
          obtain ⟨w5, hw5⟩ : ∃ w5, w4.setCell ⟨g, f, none⟩ (.int .u64 (m + 1)) = w5 := ⟨_, rfl⟩
          rw [hw5] at HN2
          try rw [hw5]
          clear hw5
          go_loopw [73] (fun q wq => ∃ k : Nat, k ≤ 16 ∧ q = .int .u8 k ∧ NcS w wq bp g (N.set f (m + 1)) (i + 1)) (fun q _ => (16 - intOf q).toNat)
          case atStart => exact ⟨0, by omega, rfl, HN2.out⟩
          case round =>
            obtain ⟨k, hk, rfl, hnk⟩ := hrel
            clear HN2
            have HN2 := hide hnk
            clear hnk
            by_cases hlk : k < 16
            · have hlk1 : (k : Int) < 16 := by omega
              obtain ⟨v, hv⟩ : ∃ v, (N.set f (m + 1))[k]? = some v := ⟨_, List.getElem?_eq_getElem (by rw [HN2.out.pq.nl]; exact hlk)⟩
              have cv := HN2.out.row.cell k (uV_get hv)
              have HC := hide (nonce_any (w := wr.drew) hlk (HN2.out.pq.cell hv))
              go_wp2
              go_region_held3 (fun w' => w'.cell? ⟨g, k, none⟩ = some (.int .u64 v)) (exact cv) ((go_at_call 13; refine HC.out.mono ?_; rintro e w9 ⟨rfl, rfl⟩))
              all_goals
                go_wp2
                go_roundw
                case rel => exact ⟨k + 1, by omega, by simp, HN2.out.drew⟩
                case measure => simp [intOf]; omega
            · obtain rfl : k = 16 := by omega
              go_wp2
              go_roundw
              case rel => exact ⟨i + 1, _, by omega, by simp, HN2.out⟩
              case measure => simp [intOf]; omega
        · have CT := hide (tryNonce_any (w := wr.drew) (nn := m) (dv := .func (.func 12) #[] #[]) hf16 (HN.out.pq.cell hx) hmx)
          go_wp2_with fail
          refine CT.out.mono ?_
          clear CT
          rintro e w4 ⟨rfl, hb4⟩
          have HN2 : Hid (NcS w w4 bp g N (i + 1)) := hide ⟨HN.out.drew.pq.below hb4, HN.out.row.of hb4.size (hb4.block g HN.out.row.lt), fun q hq => by have := HN.out.le q hq; omega⟩
          have c4 : w4.cell? ⟨g, f, none⟩ = some (.int .u64 x) := HN2.out.row.cell f (uV_get hx)
          have hdx : (m == x) = false := by simp [hmx]
          clear hb4
          go_wp2
          clear c4 cx cb cb2 hdx hmx
          go_loopw [73] (fun q wq => ∃ k : Nat, k ≤ 16 ∧ q = .int .u8 k ∧ NcS w wq bp g N (i + 1)) (fun q _ => (16 - intOf q).toNat)
          case atStart => exact ⟨0, by omega, rfl, HN2.out⟩
          case round =>
            obtain ⟨k, hk, rfl, hnk⟩ := hrel
            clear HN2
            have HN2 := hide hnk
            clear hnk
            by_cases hlk : k < 16
            · have hlk1 : (k : Int) < 16 := by omega
              obtain ⟨v, hv⟩ : ∃ v, N[k]? = some v := ⟨_, List.getElem?_eq_getElem (by rw [HN2.out.pq.nl]; exact hlk)⟩
              have cv := HN2.out.row.cell k (uV_get hv)
              have HC := hide (nonce_any (w := wr.drew) hlk (HN2.out.pq.cell hv))
              go_wp2
              go_region_held3 (fun w' => w'.cell? ⟨g, k, none⟩ = some (.int .u64 v)) (exact cv) ((go_at_call 13; refine HC.out.mono ?_; rintro e w9 ⟨rfl, rfl⟩))
              all_goals
                go_wp2
                go_roundw
                case rel => exact ⟨k + 1, by omega, by simp, HN2.out.drew⟩
                case measure => simp [intOf]; omega
            · obtain rfl : k = 16 := by omega
              go_wp2
              go_roundw
              case rel => exact ⟨i + 1, _, by omega, by simp, HN2.out⟩
              case measure => simp [intOf]; omega
      · obtain rfl : i = l.length := by omega
        have HB := hide hn.pq.be
        clear hn
        go_wp2
        go_ret
        exact ⟨rfl, HB.out⟩
end Go.Proofs.Ytncnilplmklccaa
