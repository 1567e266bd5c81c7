/- StageOrder: keys stand in order, and an iterator tells what was there. -/
import Derived.Test.YtnjijnphjiiceaaStgRows
import Derived.BigQuiet
import Derived.Test.YtnjijnphjiiceaaStgLives
import Derived.Test.YtnjijnphjiiceaaFrameStg
namespace Go.Proofs.Ytnjijnphjiiceaa
set_option linter.unusedSimpArgs false
set_option linter.unusedVariables false
set_option linter.unusedSectionVars false
open Go.RowKit Go.Lib
attribute [local go_sem] setCell_drewN alloc_drewN

theorem snoc_ind {α : Type} {p : List α → Prop} (h0 : p []) (h1 : ∀ l a, p l → p (l ++ [a])) (l : List α) : p l := by
  have : ∀ r : List α, p r.reverse := fun r => by
    induction r with
    | nil => exact h0
    | cons a r ih => rw [List.reverse_cons]; exact h1 _ _ ih
  have h := this l.reverse
  rwa [List.reverse_reverse] at h
/-- Keys that were set, one by one. -/
def ordL (l : List Int) : Kvs := l.foldl (fun L k => putL kyInt k 1 L) []
theorem ordL_snoc (l : List Int) (k : Int) : ordL (l ++ [k]) = putL kyInt k 1 (ordL l) := by simp [ordL]
theorem ordL_srt (l : List Int) : Srt kyInt (ordL l) := by
  induction l using snoc_ind with
  | h0 => exact List.Pairwise.nil
  | h1 l k ih => rw [ordL_snoc]; exact ih.put kyInt
theorem ordL_len (l : List Int) : (ordL l).length ≤ l.length := by
  induction l using snoc_ind with
  | h0 => exact Nat.le_refl _
  | h1 l k ih =>
    rw [ordL_snoc, List.length_append]
    have := putL_length kyInt (k := k) (v := (1 : Int)) (L := ordL l)
    simp
    omega
theorem ordL_one (l : List Int) : ∀ p ∈ ordL l, p.2 = 1 := by
  induction l using snoc_ind with
  | h0 => intro p hp; simp [ordL] at hp
  | h1 l k ih =>
    intro p hp
    rw [ordL_snoc] at hp
    rcases mem_putL kyInt hp with rfl | hp
    · rfl
    · exact ih p hp
theorem ordL_get (l : List Int) (j : Int) (hj : j ∉ l) : getL j (ordL l) = none := by
  induction l using snoc_ind with
  | h0 => rfl
  | h1 l k ih =>
    rw [ordL_snoc, getL_put kyInt (ordL_srt l), if_neg (fun e => hj (by simp [e])), ih (fun h => hj (by simp [h]))]
/-- What stands of a row, where some keys went. -/
def goneL (l : List Int) (L : Kvs) : Kvs := l.foldl (fun L k => delL k L) L
theorem goneL_snoc (l : List Int) (k : Int) (L : Kvs) : goneL (l ++ [k]) L = delL k (goneL l L) := by simp [goneL]
theorem goneL_srt (l : List Int) {L : Kvs} (h : Srt kyInt L) : Srt kyInt (goneL l L) := by
  induction l using snoc_ind with
  | h0 => exact h
  | h1 l k ih => rw [goneL_snoc]; exact ih.del kyInt
theorem goneL_len (l : List Int) (L : Kvs) : (goneL l L).length ≤ L.length := by
  induction l using snoc_ind with
  | h0 => exact Nat.le_refl _
  | h1 l k ih => rw [goneL_snoc]; have := delL_length k (goneL l L); omega
theorem goneL_get (l : List Int) (L : Kvs) (j : Int) : getL j (goneL l L) = if j ∈ l then none else getL j L := by
  induction l using snoc_ind with
  | h0 => simp [goneL]
  | h1 l k ih =>
    rw [goneL_snoc, getL_del, ih]
    by_cases h : k = j
    · simp [h]
    · have h2 : ¬ j = k := fun e => h e.symm
      simp [h, h2]
theorem goneL_all (l : List Int) : goneL l (ordL l) = [] :=
  Srt.ext kyInt (goneL_srt l (ordL_srt l)) List.Pairwise.nil fun j => by
    rw [goneL_get]
    split
    · rfl
    · rename_i h
      exact ordL_get l j h
theorem del_put {k v : Int} {L : Kvs} (h : Srt kyInt L) : delL k (putL kyInt k v L) = delL k L :=
  Srt.ext kyInt ((h.put kyInt).del kyInt) (h.del kyInt) fun j => by
    rw [getL_del, getL_del, getL_put kyInt h]
    split <;> simp_all
theorem get_put {k v : Int} {L : Kvs} (h : Srt kyInt L) : getL k (putL kyInt k v L) = some v := by rw [getL_put kyInt h, if_pos rfl]
set_option maxHeartbeats 8000000 in
theorem stageOrder_walk (ao : Option Addr) (cap : Nat) (l : List Int) (w : World) (hargs : l.length ≤ cap ∧ cap ≤ maxLen ∧ NumsS w ao l ∧ ∀ x ∈ l, (Lit.int .i64 x).wf = true) :
    Calls Try.prog 5 #[.slice ao l.length cap] w fun e w' => e = .returned (.bool true) ∧ Below w.heap.size w w' := by
  obtain ⟨hcap, _, hnums, hok⟩ := hargs
  have HN := hide hnums
  have HOK := hide hok
  clear hnums hok
  by_cases hlen : (l.length : Int) ≤ 40
  · have hgt : decide ((40 : Int) < (l.length : Int)) = false := by simp; omega
    go_enter Try.func5, Try.ntmps5
    go_wp2_with fail
    refine (lives12_any w).mono ?_
    rintro e w1 ⟨rfl, b1⟩
    have B1 := hide b1
    have N1 := hide (HN.out.below b1)
    clear b1
    go_wp2_with fail
    refine (snew_any (St.laid w1 27)).mono ?_
    rintro e w2 ⟨rfl, _, S1, Z1, mb1, q1, q2⟩
    obtain ⟨a, ha⟩ : ∃ a, (w1.alloc (.cells #[.slice none 0 0] 27)).heap.size + 1 = a := ⟨_, rfl⟩
    obtain ⟨b2, hO⟩ := q2.go (bAl (o := .cells #[.slice none 0 0] 27) (bMe w1)) (fun k hk => by omega)
    have B2 := hide b2
    have HO := hide hO
    clear b2 hO
    rw [ha] at q1 ⊢
    obtain ⟨X, hX⟩ : ∃ X : Nat → Kvs, upX (fun _ => ([] : Kvs)) a [] = X := ⟨_, rfl⟩
    have x0 : X a = [] := by rw [← hX, upX_same]
    rw [hX] at q1
    have am : a ∈ [a] := by simp
    have H2 := hide q1
    have X0 := hide x0
    clear q1 q2 ha hX x0
    go_wp2
    go_loopw [28] (fun i wr => ∃ m : Nat, m ≤ l.length ∧ i = .int .i64 m ∧ ∃ S' Z' ds, St wr S' Z' w1.heap.size [a] mb1 (upX X a (ordL (l.take m))) ds ∧ Below w1.heap.size w1 wr ∧ (∀ k, S' k → w1.heap.size ≤ k) ∧ ds.length ≤ m) (fun i _ => l.length - (intOf i).toNat)
    case atStart => exact ⟨0, Nat.zero_le _, rfl, S1, Z1, [], by have := H2.out; rw [← upX_self X a, X0.out] at this; exact this, B2.out, HO.out, Nat.le_refl _⟩
    case round =>
      obtain ⟨m, hm, rfl, S3, Z3, ds3, h1, h2, h3, h4⟩ := hrel
      by_cases hlt : m < l.length
      · have hx : l[m]? = some l[m] := List.getElem?_eq_getElem hlt
        have htk : l.take (m + 1) = l.take m ++ [l[m]] := by rw [List.take_succ_eq_append_getElem hlt]
        have hxo := HOK.out l[m] (List.getElem_mem hlt)
        have hal := ordL_len (l.take m)
        rw [List.length_take] at hal
        obtain ⟨b, off, rfl, hbl, c0⟩ := (N1.out.below h2).get hx
        generalize l[m] = k at *
        have HE : Hid (upX X a (ordL (l.take (m + 1))) = upX (upX X a (ordL (l.take m))) a (putL kyInt k 1 (upX X a (ordL (l.take m)) a))) := by show _ = _; rw [htk, ordL_snoc, upX_up, upX_same]
        have C := hide (set_any (v := 1) h1 am hxo (by rw [upX_same]; omega) (by omega))
        have H2 := hide h2
        have H3 := hide h3
        clear h1 h2 h3 hx htk
        go_wp2_with (go_at_call 10; refine C.out.mono ?_; clear C; rintro e w3 ⟨rfl, S4, Z4, q1, q2⟩)
        go_roundw
        case rel => exact ⟨m + 1, by omega, by simp, S4, Z4, _, by rw [HE.out]; exact q1, (q2.go H2.out H3.out).1, (q2.go H2.out H3.out).2, by simp; omega⟩
        case measure => simp [intOf]; omega
      · obtain rfl : m = l.length := by omega
        rw [List.take_length] at h1
        generalize wr = w3 at *
        have hLl := ordL_len l
        have hLo := ordL_one l
        have hLs := ordL_srt l
        have hLg := goneL_all l
        generalize ordL l = L at *
        have hLl1 : (L.length : Int) ≤ 40 := by omega
        have HLO := hide hLo
        have HLS := hide hLs
        have HLG := hide hLg
        have H1 := hide h1
        have H2 := hide h2
        have H3 := hide h3
        have hup : upX X a L a = L := upX_same _ _ _
        have C := hide (keys_any H1.out am (by rw [hup]; omega))
        rw [hup] at C
        clear h1 h2 h3 hLo hLs hLg
        go_wp2_with fail
        refine C.out.mono ?_
        clear C
        rintro e w4 ⟨ao4, cap4, rfl, n4, b4⟩
        have D := hide (all_any (H1.out.below b4) am (by rw [hup]; omega))
        rw [hup] at D
        have H4 := hide (H1.out.below b4)
        have N4 := hide n4
        have B4 := hide b4
        clear n4 b4
        go_wp2_with fail
        refine D.out.mono ?_
        clear D
        rintro e w5 ⟨gb, rfl, i5, b5⟩
        have H5 := hide (H4.out.below b5)
        have N5 := hide (N4.out.below b5)
        have I5 := hide i5
        have G5 := hide (H2.out.trans ((B4.out.trans (b5.mono B4.out.size)).mono H2.out.size))
        have LO : Hid (∀ k, S3 k → k < w4.heap.size ∧ k < w3.heap.size) := fun k hk => ⟨H4.out.low k hk, H1.out.low k hk⟩
        clear H4 N4 B4 b5 i5 hup
        go_wp2
        go_loopw [42] (fun i wx => ∃ m : Nat, m ≤ l.length ∧ i = .int .i64 m ∧ ∃ S' Z' ds, St wx S' Z' w1.heap.size [a] mb1 (upX X a (goneL (l.take m) L)) ds ∧ Mv S3 S' w5 wx ∧ ds.length ≤ 40 + 2 * m) (fun i _ => l.length - (intOf i).toNat)
        case atStart => exact ⟨0, Nat.zero_le _, rfl, S3, Z3, ds3, H5.out, Mv.refl _ _, by omega⟩
        case round =>
          obtain ⟨m, hm, rfl, S6, Z6, ds6, h1, h2, h4⟩ := hrel
          by_cases hlt : m < l.length
          · have hx : l[m]? = some l[m] := List.getElem?_eq_getElem hlt
            have htk : l.take (m + 1) = l.take m ++ [l[m]] := by rw [List.take_succ_eq_append_getElem hlt]
            have hxo := HOK.out l[m] (List.getElem_mem hlt)
            have hal := goneL_len (l.take m) L
            obtain ⟨b, off, rfl, hbl, c0⟩ := (N1.out.below (h2.go G5.out H3.out).1).get hx
            generalize l[m] = k at *
            obtain ⟨M, hM⟩ : ∃ M, goneL (l.take m) L = M := ⟨_, rfl⟩
            have hMs : Srt kyInt M := by rw [← hM]; exact goneL_srt _ HLS.out
            have hnext : goneL (l.take (m + 1)) L = delL k M := by rw [htk, goneL_snoc, hM]
            rw [hM] at h1 hal
            have hup : upX X a M a = M := upX_same _ _ _
            have hup2 : upX (upX X a M) a (putL kyInt k 2 M) a = putL kyInt k 2 M := upX_same _ _ _
            have HE : Hid (upX (upX (upX X a M) a (putL kyInt k 2 M)) a (delL k (putL kyInt k 2 M)) = upX X a (goneL (l.take (m + 1)) L)) := by show _ = _; rw [hnext, upX_up, upX_up, del_put hMs]
            have hgp : getL k (putL kyInt k 2 M) = some 2 := get_put hMs
            have C := hide (set_any (v := 2) h1 am hxo (by rw [hup]; omega) (by omega))
            rw [hup] at C
            have H2 := hide h2
            have HUP2 := hide hup2
            have HGP := hide hgp
            clear h1 h2 hx htk hup hup2 hgp hnext hM hMs
            go_wp2_with fail
            refine C.out.mono ?_
            clear C
            rintro e w6 ⟨rfl, S7, Z7, q1, q2⟩
            have D := hide (dropSome_any (v := 2) q1 am hxo (by rw [HUP2.out]; exact HGP.out) (by simp; omega))
            rw [HUP2.out] at D
            have H7 := hide (H2.out.trans q2)
            clear q1 q2
            go_wp2_with (go_at_call 12; refine D.out.mono ?_; clear D; rintro e w7 ⟨rfl, S8, Z8, q1, q2⟩)
            go_roundw
            case rel => exact ⟨m + 1, by omega, by simp, S8, Z8, _, by rw [← HE.out]; exact q1, H7.out.trans q2, by simp; omega⟩
            case measure => simp [intOf]; omega
          · obtain rfl : m = l.length := by omega
            rw [List.take_length, HLG.out] at h1
            have H1' := hide h1
            have G6 := hide (h2.go G5.out H3.out).1
            have I6 := hide (I5.out.kept (fun k h1 h2' => h2.block k h2' (fun e => by have := (LO.out k e).1; omega)))
            have N6 : Hid (NRow wr w3.heap.size (.slice ao4 L.length cap4) (L.map (·.1))) := N5.out.of (fun k hk => by obtain ⟨e1, e2⟩ := World.ownsRow.lt N5.out k hk; exact h2.block k e2 (fun e => by have := (LO.out k e).2; omega))
            have C := hide (pairs_any I6.out h2.size (by omega) (m := 100) (by omega) (by omega))
            rw [List.take_of_length_le (by omega)] at C
            clear h1 h2
            go_wp2_with fail
            refine C.out.mono ?_
            clear C
            rintro e w7 ⟨v, rfl, p7, b7⟩
            obtain ⟨ao7, cap7, rfl, _, _⟩ := p7.form
            have C := hide (mlen_any (H1'.out.below b7) am)
            rw [upX_same] at C
            have G7 := hide (G6.out.trans (b7.mono G6.out.size))
            have N7 := hide (N6.out.below b7)
            have P7 := hide p7
            clear p7 b7 N6 G6 I6 H1' H1 H2 H3 H5 N5 I5 G5 LO HLG
            go_wp2_with fail
            refine C.out.mono ?_
            clear C
            rintro e w8 ⟨rfl, rfl⟩
            go_wp2
            go_loopw [67] (fun i wx => ∃ m : Nat, m ≤ L.length ∧ i = .int .i64 m ∧ Below w8.heap.size w8 wx) (fun i _ => L.length - (intOf i).toNat)
            case atStart => exact ⟨0, Nat.zero_le _, rfl, bMe _⟩
            case round =>
              obtain ⟨m, hm, rfl, h1⟩ := hrel
              by_cases hlt : m < L.length
              · have hx : L[m]? = some L[m] := List.getElem?_eq_getElem hlt
                have hone := HLO.out L[m] (List.getElem_mem hlt)
                obtain ⟨g, rfl, hgl, c0, c1⟩ := (P7.out.below h1).get hx
                obtain ⟨g2, rfl, hgl2, c2⟩ := (N7.out.below h1).get (j := m) (x := L[m].1) (by rw [List.getElem?_map, hx]; rfl)
                rw [hone] at c1
                have H1 := hide h1
                have hng : g ≠ wr.heap.size := by omega
                have hng2 : g2 ≠ wr.heap.size := by omega
                by_cases h0 : m = 0
                · subst h0
                  generalize L[0] = p at *
                  obtain ⟨p1, p2⟩ := p
                  simp only at c0 c1 c2
                  clear hx hone h1
                  go_wp2
                  go_quiet (fail)
                  go_wp2
                  go_roundw
                  case rel => exact ⟨1, by omega, by simp, bDr (bAl H1.out) _⟩
                  case measure => simp [intOf]; omega
                · obtain ⟨k, rfl⟩ : ∃ k, m = k + 1 := ⟨m - 1, by omega⟩
                  have hy : L[k]? = some L[k] := List.getElem?_eq_getElem (by omega)
                  have hrise : L[k].1 < L[k + 1].1 := by
                    have := List.pairwise_iff_getElem.1 HLS.out k (k + 1) (by omega) hlt (by omega)
                    simpa [kyInt] using this
                  obtain ⟨g3, hg3, _, c3⟩ := (N7.out.below h1).get (j := k) (x := L[k].1) (by rw [List.getElem?_map, hy]; rfl)
                  cases hg3
                  generalize L[k + 1] = p at *
                  generalize L[k].1 = q at *
                  obtain ⟨p1, p2⟩ := p
                  simp only at c0 c1 c2 hrise
                  have d1 : decide ((0 : Int) < (k : Int) + 1) = true := decide_eq_true (by omega)
                  have d2 : decide (p1 ≤ q) = false := decide_eq_false (by omega)
                  clear hx hy hone h1 hrise
                  go_wp2
                  go_quiet (fail)
                  go_wp2
                  go_roundw
                  case rel => exact ⟨k + 1 + 1, by omega, by simp, bDr (bAl H1.out) _⟩
                  case measure => simp [intOf]; omega
              · obtain rfl : m = L.length := by omega
                have H1 := hide h1
                clear h1
                go_wp2
                go_ret
                exact ⟨rfl, B1.out.trans ((G7.out.trans (H1.out.mono G7.out.size)).mono B1.out.size)⟩
  · have hgt : decide ((40 : Int) < (l.length : Int)) = true := by simp; omega
    go_enter Try.func5, Try.ntmps5
    go_wp2_with fail
    refine (lives12_any w).mono ?_
    rintro e w1 ⟨rfl, b1⟩
    have B1 := hide b1
    clear b1
    go_wp2_with fail
    refine (lives12_any w1).mono ?_
    rintro e w2 ⟨rfl, b2⟩
    have B2 := hide (B1.out.trans (b2.mono B1.out.size))
    go_wp2
    go_ret
    exact ⟨rfl, B2.out⟩
end Go.Proofs.Ytnjijnphjiiceaa
