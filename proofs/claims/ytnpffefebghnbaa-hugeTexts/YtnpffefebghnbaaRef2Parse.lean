/- The contract of sponsionref02.Parse over this translation. -/
import Derived.Test.YtnpffefebghnbaaRef2Text
import Derived.Test.YtnpffefebghnbaaHugeParse
namespace Go.Proofs.Ytnpffefebghnbaa
open Go.RowKit Go.Lib
attribute [local go_sem] setCell_drewN alloc_drewN

theorem dec_lt {l : List UInt8} (h : ∀ c ∈ l, dgt c = true) (k : Nat) : dec (l.take k) < 10 ^ k := by
  induction k with
  | zero => simp [dec]
  | succ k ih =>
    rw [Int.pow_succ]
    by_cases hk : k < l.length
    · rw [List.take_succ_eq_append_getElem hk, dec_snoc]
      have := dgt_bd (h _ (List.getElem_mem hk))
      omega
    · rw [List.take_of_length_le (by omega)]
      rw [List.take_of_length_le (by omega)] at ih
      have : (0 : Int) < 10 ^ k := Int.pow_pos (by decide)
      omega
theorem dec_pw {l : List UInt8} (h : ∀ c ∈ l, dgt c = true) {k : Nat} (hk : k ≤ 78) : dec (l.take k) < pw 17 := by
  have h1 := dec_lt h k
  have h2 : (10 : Int) ^ k ≤ 10 ^ 78 := by
    have : (10 : Nat) ^ k ≤ 10 ^ 78 := Nat.pow_le_pow_right (by omega) hk
    have e1 : ((10 ^ k : Nat) : Int) = (10 : Int) ^ k := by simp
    have e2 : ((10 ^ 78 : Nat) : Int) = (10 : Int) ^ 78 := by simp
    omega
  rw [show (10 : Int) ^ 78 = 1000000000000000000000000000000000000000000000000000000000000000000000000000000 by decide] at h2
  rw [show pw 17 = 7588550360256754183279148073529370729071901715047420004889892225542594864082845696 by decide]
  omega
theorem results_num {P : Program} {fn : Func} {p u : Tmp} {ty : TypeId} (h : fn.results = #[.cell p ty, .tmp u]) {tmps : Array Value} {w : World} {ad : Addr} {v x : Value} (hp : tmps.getD p undef = .pointer (some ad)) (hx : tmps.getD u undef = x) (hl : (loadVar ty ad).run P w = .ok v w) :
    (results fn tmps).run P w = .ok (.tuple #[v, x]) w := by
  have hp' : tmps[p]?.getD undef = .pointer (some ad) := by simpa using hp
  have hx' : tmps[u]?.getD undef = x := by simpa using hx
  simp [results, h, hp', hx', asAddr, hl]
theorem infoFour : (Try.prog.info? 24).map (·.size) = some 4 := by kernel_rfl
theorem Own.load {w : World} {g : Nat} {a b c d : Int} (h : Own w g a b c d) : (loadVar 24 ⟨g, 0, none⟩).run Try.prog w = .ok (.agg #[.int .u64 a, .int .u64 b, .int .u64 c, .int .u64 d]) w := by
  refine run_loadVar_mid (P := Try.prog) w g 0 24 [.int .u64 a, .int .u64 b, .int .u64 c, .int .u64 d] _ ?_ Try.underlying24 rfl infoFour
  intro j u hj
  rw [Nat.zero_add]
  match j, hj with
  | 0, hj => simp at hj; subst hj; exact h.c0
  | 1, hj => simp at hj; subst hj; exact h.c1
  | 2, hj => simp at hj; subst hj; exact h.c2
  | 3, hj => simp at hj; subst hj; exact h.c3
theorem ret_zero (k : Int) : Ending.returned (.tuple #[.agg #[.int .u64 0, .int .u64 0, .int .u64 0, .int .u64 0], .int .i64 k]) = .returned (.tuple #[big 0, .int .i64 k]) := ret_num0 k

theorem rparse_nil (s : ByteArray) (w : World) (h : s.data.toList = []) :
    Calls Try.prog 29 #[.string s] w fun e w' => e = .returned (.tuple #[big 0, .int .i64 6]) ∧ Below w.heap.size w w' := by
  have h0 : s.toList = [] := by rw [ByteArray.toList_eq, h]
  clear h
  go_enter Try.func29, Try.ntmps29
  go_wp2
  refine bodyPost_ret (v := .tuple #[.agg #[.int .u64 0, .int .u64 0, .int .u64 0, .int .u64 0], .int .i64 6]) ?_ rfl ⟨ret_zero 6, bAl (bMe w)⟩
  simp [results, Try.results29, go_sem]
theorem not_empty {s : ByteArray} (h0 : 0 < s.size) : s.toList.isEmpty = false := by
  rw [ByteArray.toList_eq]
  cases hh : s.data.toList with
  | nil =>
    have : s.data.toList.length = 0 := by rw [hh]; rfl
    simp at this; exact absurd h0 (by simp [ByteArray.size, this])
  | cons _ _ => rfl
theorem rparse_nought (s : ByteArray) (w : World) (h0 : 0 < s.size) (h1 : (s[0].toNat : Int) = 48) (h2 : 1 < s.size) :
    Calls Try.prog 29 #[.string s] w fun e w' => e = .returned (.tuple #[big 0, .int .i64 6]) ∧ Below w.heap.size w w' := by
  have e0 := not_empty h0
  have h2i : (1 : Int) < (s.size : Int) := by omega
  go_enter Try.func29, Try.ntmps29
  go_wp2
  refine bodyPost_ret (v := .tuple #[.agg #[.int .u64 0, .int .u64 0, .int .u64 0, .int .u64 0], .int .i64 6]) ?_ rfl ⟨ret_zero 6, bAl (bMe w)⟩
  simp [results, Try.results29, go_sem]

set_option maxHeartbeats 8000000 in
theorem rparse_one (s : ByteArray) (w : World) (hs : s.size ≤ maxLen) (h0 : 0 < s.size) (h1 : (s[0].toNat : Int) ≠ 48) (Q : Ending → World → Prop)
    (form : decimal s.data.toList = false → ∀ w', Below w.heap.size w w' → Q (.returned (.tuple #[big 0, .int .i64 6])) w')
    (over : decimal s.data.toList = true → (78 < s.size ∨ ¬ In (dec s.data.toList)) → ∀ w', Below w.heap.size w w' → Q (.returned (.tuple #[big 0, .int .i64 2])) w')
    (ok : decimal s.data.toList = true → s.size ≤ 78 → In (dec s.data.toList) → ∀ w', Below w.heap.size w w' → Q (.returned (.tuple #[big (dec s.data.toList), .int .i64 0])) w') :
    Calls Try.prog 29 #[.string s] w Q := by
  unfold maxLen at hs
  have HFORM := hide form; have HOVER := hide over; have HOK := hide ok
  clear form over ok
  have e0 := not_empty h0
  have HG : Hid (s[0].toNat ≠ 48 ∨ s.data.toList = [48]) := .inl (by omega)
  have hgg : w.heap.size ≤ w.heap.size + 1 := by omega
  have HGG := hide hgg
  clear hgg
  go_enter Try.func29, Try.ntmps29
  go_wp2
  go_loop [4] (fun t => ∃ k : Nat, k ≤ s.size ∧ t = .int .i64 k ∧ (s.data.toList.take k).all dgt = true) (fun t => s.size - (intOf t).toNat)
  case atStart => exact ⟨0, Nat.zero_le _, rfl, rfl⟩
  case round =>
    obtain ⟨k, hk, rfl, ha⟩ := hrel
    have HA := hide ha
    clear ha
    by_cases hlt : k < s.size
    · by_cases hA : (s[k].toNat : Int) < 48
      · go_wp2
        have R := HFORM.out (decimal_bad (k := k) (by simpa using hlt) (dgt_low hA)) _ (bAl (o := .cells #[.int .u64 0, .int .u64 0, .int .u64 0, .int .u64 0] 24) (bMe w))
        rw [← ret_zero 6] at R
        refine bodyPost_ret (v := .tuple #[.agg #[.int .u64 0, .int .u64 0, .int .u64 0, .int .u64 0], .int .i64 6]) ?_ rfl R
        simp [results, Try.results29, go_sem]
      · by_cases hB : 57 < (s[k].toNat : Int)
        · go_wp2
          have R := HFORM.out (decimal_bad (k := k) (by simpa using hlt) (dgt_high hB)) _ (bAl (o := .cells #[.int .u64 0, .int .u64 0, .int .u64 0, .int .u64 0] 24) (bMe w))
          rw [← ret_zero 6] at R
          refine bodyPost_ret (v := .tuple #[.agg #[.int .u64 0, .int .u64 0, .int .u64 0, .int .u64 0], .int .i64 6]) ?_ rfl R
          simp [results, Try.results29, go_sem]
        · go_wp2
          go_round
          case rel => exact ⟨k + 1, by omega, by go_num, by rw [take_one s k hlt]; exact all_snoc HA.out (dgt_of (by omega) (by omega))⟩
          case measure => simp [intOf]; omega
    · have hd : decimal s.data.toList = true := by
        refine decimal_good (by simpa using h0) ?_ HG.out
        have := HA.out
        rw [List.take_of_length_le (by simp; omega)] at this
        exact this
      have HDEC := hide hd
      have HD := hide (all_of_decimal hd)
      clear hd HA
      by_cases h78 : 78 < s.size
      · have h78i : (78 : Int) < (s.size : Int) := by omega
        go_wp2
        have R := HOVER.out HDEC.out (.inl h78) _ (bAl (o := .cells #[.int .u64 0, .int .u64 0, .int .u64 0, .int .u64 0] 24) (bMe w))
        rw [← ret_zero 2] at R
        refine bodyPost_ret (v := .tuple #[.agg #[.int .u64 0, .int .u64 0, .int .u64 0, .int .u64 0], .int .i64 2]) ?_ rfl R
        simp [results, Try.results29, go_sem]
      · have h78i : ¬ (78 : Int) < (s.size : Int) := by omega
        go_wp2
        go_loopw [5, 6] (fun v5 t wr => ∃ (k : Nat) (lo' : Option Addr) (ln lc : Nat), k ≤ s.size ∧ t = .int .i64 k ∧ v5 = .slice lo' ln lc ∧ Below w.heap.size w wr ∧ Own wr w.heap.size 0 0 0 0 ∧ Num wr lo' ln lc (dec (s.data.toList.take k)) 17) (fun _ t _ => s.size - (intOf t).toNat)
        case atStart => exact ⟨0, none, 0, 0, Nat.zero_le _, rfl, rfl, bAl (bMe w), Own.new w _ _ _ _ _, Num.nil _ _⟩
        case round =>
          obtain ⟨k, lo', ln, lc, hk, rfl, rfl, hb, o1, nl⟩ := hrel
          have B := hide hb; have O := hide o1; have NL := hide nl
          clear hb o1 nl
          by_cases hlt : k < s.size
          · have cd := dgt_bd (HD.out s[k] (by rw [← list_get s k hlt]; exact List.getElem_mem _))
            have hw8 : IntKind.u8.wrap ((s[k].toNat : Int) - 48) = (s[k].toNat : Int) - 48 := by rw [IntKind.wrap_u8]; omega
            have hw64 : IntKind.u64.wrap ((s[k].toNat : Int) - 48) = (s[k].toNat : Int) - 48 := by rw [IntKind.wrap_u64]; omega
            have e1 : Hid (dec (s.data.toList.take (k + 1)) = dec (s.data.toList.take k) * 10 + ((s[k].toNat : Int) - 48)) := by rw [take_one s k hlt, dec_snoc]; exact rfl
            have hpw := hide (dec_pw HD.out (show k + 1 ≤ 78 by omega))
            go_wp2
            go_region_with (first | (go_at_call 22; refine (of_any ((s[k].toNat : Int) - 48) _ (by omega) (by omega)).mono ?_; rintro e w2 ⟨yo, yn, yc, rfl, ny, hb2⟩; have NY := hide ny; (first | (have st := bOn (bMe wm) hb2; replace NM := hide (NM.out.below st); replace O := hide (O.out.after hb2 rfl); replace B := hide (bOn B.out st)) | (have st := bOn (bAl (o := (.cells #[.int .i64 10] 3)) (bMe wr)).drew hb2; have NLIT := hide ((lit10 wr).below (bOn (bMe _).drew hb2)); replace NL := hide (NL.out.below st); replace O := hide ((O.out.past (.cells #[.int .i64 10] 3)).after hb2 rfl); replace B := hide (bOn B.out st)) | (have st := bOn (bMe wr).drew hb2; replace NL := hide (NL.out.below st); replace O := hide (O.out.after hb2 rfl); replace B := hide (bOn B.out st))); clear hb2 ny st) | (go_at_call 20; (first | (refine (mul_any (NL.out.below (bAl (o := (.cells #[.int .i64 10] 3)) (bMe wr)).drew) ((lit10 wr).below (bMe _).drew) (by omega)).mono ?_; rintro e wm ⟨mo, mn, mc, rfl, nm, hbm⟩; have NM := hide nm; have st := bOn (bAl (o := (.cells #[.int .i64 10] 3)) (bMe wr)).drew hbm; replace O := hide ((O.out.past (.cells #[.int .i64 10] 3)).after hbm rfl); replace B := hide (bOn B.out st)) | (refine (mul_any NL.out NLIT.out (by omega)).mono ?_; rintro e wm ⟨mo, mn, mc, rfl, nm, hbm⟩; have NM := hide nm; have st := bOn (bMe w2) hbm; replace NY := hide (NY.out.below st); replace O := hide (O.out.after hbm rfl); replace B := hide (bOn B.out st)) | (refine (mul_any (NL.out.below (bAl (o := (.cells #[.int .i64 10] 3)) (bMe w2))) (lit10 w2) (by omega)).mono ?_; rintro e wm ⟨mo, mn, mc, rfl, nm, hbm⟩; have NM := hide nm; have st := bOn (bAl (o := (.cells #[.int .i64 10] 3)) (bMe w2)) hbm; replace NY := hide (NY.out.below st); replace O := hide ((O.out.past (.cells #[.int .i64 10] 3)).after hbm rfl); replace B := hide (bOn B.out st))); clear hbm nm st) | (go_at_call 15; refine (add_any (L := 18) (NM.out.mono (by omega)) (NY.out.mono (by omega)) (by omega)).mono ?_; rintro e w5 ⟨zo, zn, zc, rfl, nz, hb5⟩; have NZ := hide nz; replace O := hide (O.out.after hb5 rfl); replace B := hide (bOn B.out hb5); clear hb5 nz))
            all_goals
              go_wp2
              go_roundw
              case rel => exact ⟨k + 1, zo, zn, zc, by omega, by go_num, rfl, B.out, O.out, by have := hpw.out; rw [e1.out] at this ⊢; exact NZ.out.upto 17 this⟩
              case measure => simp [intOf]; omega
          · have et : Hid (dec (s.data.toList.take k) = dec s.data.toList) := by
              rw [List.take_of_length_le (by rw [Array.length_toList]; exact Nat.le_of_not_lt hlt)]; exact rfl
            by_cases hin : In (dec (s.data.toList.take k))
            · have HIN := hide hin
              clear hin
              go_wp2_with fail
              refine (int_ok NL.out HIN.out).mono ?_
              rintro e w3 ⟨rfl, hb3⟩
              replace O := hide (O.out.after hb3 rfl); replace B := hide (bOn B.out hb3)
              clear hb3
              obtain ⟨o5, x0, x1, x2, x3, _⟩ := O.out
              generalize dec (s.data.toList.take k) = v at *
              go_wp2
              have R := HOK.out HDEC.out (by omega) (by rw [← et.out]; exact HIN.out) _ (bAl (o := .cells #[.int .u64 (lm v 0), .int .u64 (lm v 1), .int .u64 (lm v 2), .int .u64 (lm v 3)] 24) (put_below B.out (Nat.le_refl _) (x := lm v 0) (y := lm v 1) (z := lm v 2) (u := lm v 3)))
              rw [← et.out] at R
              refine bodyPost_ret (v := .tuple #[big v, .int .i64 0]) ?_ rfl R
              exact results_num Try.results29 rfl rfl (((O.out.put (lm v 0) (lm v 1) (lm v 2) (lm v 3)).past _).load)
            · have HIN := hide hin
              clear hin
              go_wp2_with fail
              refine (int_over NL.out HIN.out).mono ?_
              rintro e w3 ⟨rfl, hb3⟩
              replace O := hide (O.out.after hb3 rfl); replace B := hide (bOn B.out hb3)
              clear hb3
              obtain ⟨o5, x0, x1, x2, x3, _⟩ := O.out
              go_wp2
              have R := HOVER.out HDEC.out (.inr (by rw [← et.out]; exact HIN.out)) _ (bAl (o := .cells #[.int .u64 (lm 0 0), .int .u64 (lm 0 1), .int .u64 (lm 0 2), .int .u64 (lm 0 3)] 24) (put_below B.out (Nat.le_refl _) (x := 0) (y := 0) (z := 0) (u := 0)))
              rw [← ret_zero 2] at R
              refine bodyPost_ret (v := .tuple #[.agg #[.int .u64 0, .int .u64 0, .int .u64 0, .int .u64 0], .int .i64 2]) ?_ rfl R
              exact results_num Try.results29 rfl rfl (((O.out.put 0 0 0 0).past _).load)
set_option maxHeartbeats 8000000 in
theorem rparse_two (s : ByteArray) (w : World) (hs : s.size ≤ maxLen) (h0 : 0 < s.size) (h1 : (s[0].toNat : Int) = 48) (h2 : ¬ (1 : Int) < (s.size : Int)) (Q : Ending → World → Prop)
    (form : decimal s.data.toList = false → ∀ w', Below w.heap.size w w' → Q (.returned (.tuple #[big 0, .int .i64 6])) w')
    (over : decimal s.data.toList = true → (78 < s.size ∨ ¬ In (dec s.data.toList)) → ∀ w', Below w.heap.size w w' → Q (.returned (.tuple #[big 0, .int .i64 2])) w')
    (ok : decimal s.data.toList = true → s.size ≤ 78 → In (dec s.data.toList) → ∀ w', Below w.heap.size w w' → Q (.returned (.tuple #[big (dec s.data.toList), .int .i64 0])) w') :
    Calls Try.prog 29 #[.string s] w Q := by
  unfold maxLen at hs
  have HFORM := hide form; have HOVER := hide over; have HOK := hide ok
  clear form over ok
  have e0 := not_empty h0
  have HG : Hid (s[0].toNat ≠ 48 ∨ s.data.toList = [48]) := by
    · right
      have hl : s.data.toList.length = 1 := by rw [Array.length_toList]; show s.size = 1; omega
      match hh : s.data.toList, hl with
      | [c], _ =>
        have : s.data.toList[0]'(by rw [hh]; simp) = s[0] := rfl
        have e : s[0] = c := by rw [← this]; simp [hh]
        have : c.toNat = 48 := by rw [← e]; omega
        rw [UInt8.toNat_inj.1 (show c.toNat = (48 : UInt8).toNat from this)]
  have hgg : w.heap.size ≤ w.heap.size + 1 := by omega
  have HGG := hide hgg
  clear hgg
  go_enter Try.func29, Try.ntmps29
  go_wp2
  go_loop [4] (fun t => ∃ k : Nat, k ≤ s.size ∧ t = .int .i64 k ∧ (s.data.toList.take k).all dgt = true) (fun t => s.size - (intOf t).toNat)
  case atStart => exact ⟨0, Nat.zero_le _, rfl, rfl⟩
  case round =>
    obtain ⟨k, hk, rfl, ha⟩ := hrel
    have HA := hide ha
    clear ha
    by_cases hlt : k < s.size
    · by_cases hA : (s[k].toNat : Int) < 48
      · go_wp2
        have R := HFORM.out (decimal_bad (k := k) (by simpa using hlt) (dgt_low hA)) _ (bAl (o := .cells #[.int .u64 0, .int .u64 0, .int .u64 0, .int .u64 0] 24) (bMe w))
        rw [← ret_zero 6] at R
        refine bodyPost_ret (v := .tuple #[.agg #[.int .u64 0, .int .u64 0, .int .u64 0, .int .u64 0], .int .i64 6]) ?_ rfl R
        simp [results, Try.results29, go_sem]
      · by_cases hB : 57 < (s[k].toNat : Int)
        · go_wp2
          have R := HFORM.out (decimal_bad (k := k) (by simpa using hlt) (dgt_high hB)) _ (bAl (o := .cells #[.int .u64 0, .int .u64 0, .int .u64 0, .int .u64 0] 24) (bMe w))
          rw [← ret_zero 6] at R
          refine bodyPost_ret (v := .tuple #[.agg #[.int .u64 0, .int .u64 0, .int .u64 0, .int .u64 0], .int .i64 6]) ?_ rfl R
          simp [results, Try.results29, go_sem]
        · go_wp2
          go_round
          case rel => exact ⟨k + 1, by omega, by go_num, by rw [take_one s k hlt]; exact all_snoc HA.out (dgt_of (by omega) (by omega))⟩
          case measure => simp [intOf]; omega
    · have hd : decimal s.data.toList = true := by
        refine decimal_good (by simpa using h0) ?_ HG.out
        have := HA.out
        rw [List.take_of_length_le (by simp; omega)] at this
        exact this
      have HDEC := hide hd
      have HD := hide (all_of_decimal hd)
      clear hd HA
      · have h78i : ¬ (78 : Int) < (s.size : Int) := by omega
        go_wp2
        go_loopw [5, 6] (fun v5 t wr => ∃ (k : Nat) (lo' : Option Addr) (ln lc : Nat), k ≤ s.size ∧ t = .int .i64 k ∧ v5 = .slice lo' ln lc ∧ Below w.heap.size w wr ∧ Own wr w.heap.size 0 0 0 0 ∧ Num wr lo' ln lc (dec (s.data.toList.take k)) 17) (fun _ t _ => s.size - (intOf t).toNat)
        case atStart => exact ⟨0, none, 0, 0, Nat.zero_le _, rfl, rfl, bAl (bMe w), Own.new w _ _ _ _ _, Num.nil _ _⟩
        case round =>
          obtain ⟨k, lo', ln, lc, hk, rfl, rfl, hb, o1, nl⟩ := hrel
          have B := hide hb; have O := hide o1; have NL := hide nl
          clear hb o1 nl
          by_cases hlt : k < s.size
          · have cd := dgt_bd (HD.out s[k] (by rw [← list_get s k hlt]; exact List.getElem_mem _))
            have hw8 : IntKind.u8.wrap ((s[k].toNat : Int) - 48) = (s[k].toNat : Int) - 48 := by rw [IntKind.wrap_u8]; omega
            have hw64 : IntKind.u64.wrap ((s[k].toNat : Int) - 48) = (s[k].toNat : Int) - 48 := by rw [IntKind.wrap_u64]; omega
            have e1 : Hid (dec (s.data.toList.take (k + 1)) = dec (s.data.toList.take k) * 10 + ((s[k].toNat : Int) - 48)) := by rw [take_one s k hlt, dec_snoc]; exact rfl
            have hpw := hide (dec_pw HD.out (show k + 1 ≤ 78 by omega))
            go_wp2
            go_region_with (first | (go_at_call 22; refine (of_any ((s[k].toNat : Int) - 48) _ (by omega) (by omega)).mono ?_; rintro e w2 ⟨yo, yn, yc, rfl, ny, hb2⟩; have NY := hide ny; (first | (have st := bOn (bMe wm) hb2; replace NM := hide (NM.out.below st); replace O := hide (O.out.after hb2 rfl); replace B := hide (bOn B.out st)) | (have st := bOn (bAl (o := (.cells #[.int .i64 10] 3)) (bMe wr)).drew hb2; have NLIT := hide ((lit10 wr).below (bOn (bMe _).drew hb2)); replace NL := hide (NL.out.below st); replace O := hide ((O.out.past (.cells #[.int .i64 10] 3)).after hb2 rfl); replace B := hide (bOn B.out st)) | (have st := bOn (bMe wr).drew hb2; replace NL := hide (NL.out.below st); replace O := hide (O.out.after hb2 rfl); replace B := hide (bOn B.out st))); clear hb2 ny st) | (go_at_call 20; (first | (refine (mul_any (NL.out.below (bAl (o := (.cells #[.int .i64 10] 3)) (bMe wr)).drew) ((lit10 wr).below (bMe _).drew) (by omega)).mono ?_; rintro e wm ⟨mo, mn, mc, rfl, nm, hbm⟩; have NM := hide nm; have st := bOn (bAl (o := (.cells #[.int .i64 10] 3)) (bMe wr)).drew hbm; replace O := hide ((O.out.past (.cells #[.int .i64 10] 3)).after hbm rfl); replace B := hide (bOn B.out st)) | (refine (mul_any NL.out NLIT.out (by omega)).mono ?_; rintro e wm ⟨mo, mn, mc, rfl, nm, hbm⟩; have NM := hide nm; have st := bOn (bMe w2) hbm; replace NY := hide (NY.out.below st); replace O := hide (O.out.after hbm rfl); replace B := hide (bOn B.out st)) | (refine (mul_any (NL.out.below (bAl (o := (.cells #[.int .i64 10] 3)) (bMe w2))) (lit10 w2) (by omega)).mono ?_; rintro e wm ⟨mo, mn, mc, rfl, nm, hbm⟩; have NM := hide nm; have st := bOn (bAl (o := (.cells #[.int .i64 10] 3)) (bMe w2)) hbm; replace NY := hide (NY.out.below st); replace O := hide ((O.out.past (.cells #[.int .i64 10] 3)).after hbm rfl); replace B := hide (bOn B.out st))); clear hbm nm st) | (go_at_call 15; refine (add_any (L := 18) (NM.out.mono (by omega)) (NY.out.mono (by omega)) (by omega)).mono ?_; rintro e w5 ⟨zo, zn, zc, rfl, nz, hb5⟩; have NZ := hide nz; replace O := hide (O.out.after hb5 rfl); replace B := hide (bOn B.out hb5); clear hb5 nz))
            all_goals
              go_wp2
              go_roundw
              case rel => exact ⟨k + 1, zo, zn, zc, by omega, by go_num, rfl, B.out, O.out, by have := hpw.out; rw [e1.out] at this ⊢; exact NZ.out.upto 17 this⟩
              case measure => simp [intOf]; omega
          · have et : Hid (dec (s.data.toList.take k) = dec s.data.toList) := by
              rw [List.take_of_length_le (by rw [Array.length_toList]; exact Nat.le_of_not_lt hlt)]; exact rfl
            by_cases hin : In (dec (s.data.toList.take k))
            · have HIN := hide hin
              clear hin
              go_wp2_with fail
              refine (int_ok NL.out HIN.out).mono ?_
              rintro e w3 ⟨rfl, hb3⟩
              replace O := hide (O.out.after hb3 rfl); replace B := hide (bOn B.out hb3)
              clear hb3
              obtain ⟨o5, x0, x1, x2, x3, _⟩ := O.out
              generalize dec (s.data.toList.take k) = v at *
              go_wp2
              have R := HOK.out HDEC.out (by omega) (by rw [← et.out]; exact HIN.out) _ (bAl (o := .cells #[.int .u64 (lm v 0), .int .u64 (lm v 1), .int .u64 (lm v 2), .int .u64 (lm v 3)] 24) (put_below B.out (Nat.le_refl _) (x := lm v 0) (y := lm v 1) (z := lm v 2) (u := lm v 3)))
              rw [← et.out] at R
              refine bodyPost_ret (v := .tuple #[big v, .int .i64 0]) ?_ rfl R
              exact results_num Try.results29 rfl rfl (((O.out.put (lm v 0) (lm v 1) (lm v 2) (lm v 3)).past _).load)
            · have HIN := hide hin
              clear hin
              go_wp2_with fail
              refine (int_over NL.out HIN.out).mono ?_
              rintro e w3 ⟨rfl, hb3⟩
              replace O := hide (O.out.after hb3 rfl); replace B := hide (bOn B.out hb3)
              clear hb3
              obtain ⟨o5, x0, x1, x2, x3, _⟩ := O.out
              go_wp2
              have R := HOVER.out HDEC.out (.inr (by rw [← et.out]; exact HIN.out)) _ (bAl (o := .cells #[.int .u64 (lm 0 0), .int .u64 (lm 0 1), .int .u64 (lm 0 2), .int .u64 (lm 0 3)] 24) (put_below B.out (Nat.le_refl _) (x := 0) (y := 0) (z := 0) (u := 0)))
              rw [← ret_zero 2] at R
              refine bodyPost_ret (v := .tuple #[.agg #[.int .u64 0, .int .u64 0, .int .u64 0, .int .u64 0], .int .i64 2]) ?_ rfl R
              exact results_num Try.results29 rfl rfl (((O.out.put 0 0 0 0).past _).load)
/-- What the document's Parse tells, of any text. -/
theorem rparse_any (s : ByteArray) (w : World) (hs : s.size ≤ maxLen) :
    Calls Try.prog 29 #[.string s] w fun e w' => ∃ v c, e = .returned (.tuple #[big v, .int .i64 c]) ∧ ((decimal s.data.toList = false ∧ v = 0 ∧ c = 6) ∨ (decimal s.data.toList = true ∧ (78 < s.size ∨ ¬ In (dec s.data.toList)) ∧ v = 0 ∧ c = 2) ∨ (decimal s.data.toList = true ∧ In (dec s.data.toList) ∧ v = dec s.data.toList ∧ c = 0)) ∧ Below w.heap.size w w' := by
  by_cases h0 : 0 < s.size
  · by_cases h1 : (s[0].toNat : Int) = 48
    · by_cases h2 : 1 < s.size
      · refine (rparse_nought s w h0 h1 h2).mono ?_
        rintro e w' ⟨rfl, hw⟩
        refine ⟨_, _, rfl, .inl ⟨?_, rfl, rfl⟩, hw⟩
        refine decimal_nought (l := s.data.toList) (by simpa using h0) (by have := list_get s 0 h0; rw [this]; omega) (fun e => ?_)
        have : s.data.toList.length = 1 := by rw [e]; rfl
        rw [Array.length_toList] at this
        have : s.size = 1 := this
        omega
      · exact rparse_two s w hs h0 h1 (by omega) _ (fun hd _ hw => ⟨_, _, rfl, .inl ⟨hd, rfl, rfl⟩, hw⟩) (fun hd ho _ hw => ⟨_, _, rfl, .inr (.inl ⟨hd, ho, rfl, rfl⟩), hw⟩) (fun hd _ hi _ hw => ⟨_, _, rfl, .inr (.inr ⟨hd, hi, rfl, rfl⟩), hw⟩)
    · exact rparse_one s w hs h0 h1 _ (fun hd _ hw => ⟨_, _, rfl, .inl ⟨hd, rfl, rfl⟩, hw⟩) (fun hd ho _ hw => ⟨_, _, rfl, .inr (.inl ⟨hd, ho, rfl, rfl⟩), hw⟩) (fun hd _ hi _ hw => ⟨_, _, rfl, .inr (.inr ⟨hd, hi, rfl, rfl⟩), hw⟩)
  · have hl : s.data.toList = [] := by
      have : s.data.toList.length = 0 := by rw [Array.length_toList]; exact Nat.eq_zero_of_not_pos h0
      exact List.length_eq_zero_iff.1 this
    refine (rparse_nil s w hl).mono ?_
    rintro e w' ⟨rfl, hw⟩
    exact ⟨_, _, rfl, .inl ⟨by rw [hl]; rfl, rfl, rfl⟩, hw⟩
end Go.Proofs.Ytnpffefebghnbaa
