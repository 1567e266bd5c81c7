/- StageBack: going back to a mark leaves all as it was. -/
import Derived.Test.YtnjijnphjiiceaaStgRows
import Derived.Test.YtnjijnphjiiceaaStgLives
import Derived.Test.YtnjijnphjiiceaaFrameStg
namespace Go.Proofs.Ytnjijnphjiiceaa
set_option linter.unusedSimpArgs false
set_option linter.unusedVariables false
set_option linter.unusedSectionVars false
open Go.RowKit Go.Lib
attribute [local go_sem] setCell_drewN alloc_drewN

/-- Two journals, each with a map, and nothing in common. -/
def Two (w0 w : World) (bi a : Nat) (X : Nat → Kvs) (di : Deeds) (bj b : Nat) (Y : Nat → Kvs) (dj : Deeds) : Prop :=
  ∃ Si Zi mi Sj Zj mj, St w Si Zi bi [a] mi X di ∧ St w Sj Zj bj [b] mj Y dj ∧ (∀ k, Si k → ¬ Sj k) ∧ (∀ k, Si k → w0.heap.size ≤ k) ∧ (∀ k, Sj k → w0.heap.size ≤ k) ∧ Below w0.heap.size w0 w
section
variable {w0 w : World} {bi a : Nat} {X : Nat → Kvs} {di : Deeds} {bj b : Nat} {Y : Nat → Kvs} {dj : Deeds}
theorem Two.swap (h : Two w0 w bi a X di bj b Y dj) : Two w0 w bj b Y dj bi a X di := by
  obtain ⟨Si, Zi, mi, Sj, Zj, mj, h1, h2, h3, h4, h5, h6⟩ := h
  exact ⟨Sj, Zj, mj, Si, Zi, mi, h2, h1, fun k e1 e2 => h3 k e2 e1, h5, h4, h6⟩
theorem Two.below {w' : World} (h : Two w0 w bi a X di bj b Y dj) (hb : Below w.heap.size w w') : Two w0 w' bi a X di bj b Y dj := by
  obtain ⟨Si, Zi, mi, Sj, Zj, mj, h1, h2, h3, h4, h5, h6⟩ := h
  exact ⟨Si, Zi, mi, Sj, Zj, mj, h1.below hb, h2.below hb, h3, h4, h5, h6.trans (hb.mono h6.size)⟩
theorem Two.bel (h : Two w0 w bi a X di bj b Y dj) : Below w0.heap.size w0 w := by
  obtain ⟨_, _, _, _, _, _, _, _, _, _, _, h6⟩ := h
  exact h6
/-- The deeds on the first one. -/
theorem Two.deeds (h : Two w0 w bi a X di bj b Y dj) {ao : Option Addr} {cap : Nat} {xs : List AcS} (hacts : ActsS w0 ao xs) (hok : ∀ x ∈ xs, x.Ok) (hlen : xs.length ≤ 1000) (hX : (X a).length ≤ 1000) (hds : di.length ≤ 10000) (hcap : xs.length ≤ cap) :
    Calls Try.prog 19 #[.pointer (some ⟨a, 0, none⟩), .slice ao xs.length cap] w fun e w' => e = .returned (.tuple #[]) ∧ ∃ ds', Two w0 w' bi a (upX X a (actsL xs (X a))) (di ++ ds') bj b Y dj ∧ undoN kyInt ds' (upX X a (actsL xs (X a))) = X ∧ ds'.length = cntA xs (X a) := by
  obtain ⟨Si, Zi, mi, Sj, Zj, mj, h1, h2, h3, h4, h5, h6⟩ := h
  refine (deeds_any h1 (by simp) (hacts.below h6) hok (fun k h0 hk e => ?_) hlen hX hds hcap).mono ?_
  · have := h4 k e
    rcases hacts with h | ⟨b', off, rfl, hl, _⟩
    · exact h0 h
    · simp at hk; omega
  · rintro e w' ⟨rfl, S', Z', ds', q1, q2, q3, q4⟩
    exact ⟨rfl, ds', ⟨S', Z', mi, Sj, Zj, mj, q1, h2.of q2.size (q2.far h2.low fun k e1 e2 => h3 k e2 e1), fun k e1 e2 => q2.apart h2.low (fun k e1 e2 => h3 k e2 e1) k e2 e1, fun k e => (q2.own k e).elim (h4 k) fun e => Nat.le_trans h6.size e, h5, q2.below h6 h4⟩, q3, q4⟩
/-- The first one goes back. -/
theorem Two.back (h : Two w0 w bi a X di bj b Y dj) (n : Nat) (hn : n ≤ di.length) (hds : di.length ≤ 100000) (hX : ∀ a, (X a).length ≤ 100000) :
    Calls Try.prog 13 #[.pointer (some ⟨bi, 0, none⟩), .int .i64 n] w fun e w' => e = .returned (.bool true) ∧ Two w0 w' bi a (undoN kyInt (di.drop n) X) (di.take n) bj b Y dj := by
  obtain ⟨Si, Zi, mi, Sj, Zj, mj, h1, h2, h3, h4, h5, h6⟩ := h
  refine (back_any h1 n hn hds hX).mono ?_
  rintro e w' ⟨rfl, q1, q2⟩
  exact ⟨rfl, ⟨Si, Zi, mi, Sj, Zj, mj, q1, h2.of q2.size (q2.far h2.low fun k e1 e2 => h3 k e2 e1), h3, h4, h5, q2.below h6 h4⟩⟩
theorem Two.mark (h : Two w0 w bi a X di bj b Y dj) :
    Calls Try.prog 15 #[.pointer (some ⟨bi, 0, none⟩)] w fun e w' => e = .returned (.int .i64 di.length) ∧ w' = w := by
  obtain ⟨Si, Zi, mi, Sj, Zj, mj, h1, _⟩ := h
  exact mark_any h1
theorem Two.len (h : Two w0 w bi a X di bj b Y dj) :
    Calls Try.prog 23 #[.pointer (some ⟨a, 0, none⟩)] w fun e w' => e = .returned (.int .i64 (X a).length) ∧ w' = w := by
  obtain ⟨Si, Zi, mi, Sj, Zj, mj, h1, _⟩ := h
  exact mlen_any h1 (by simp)
theorem Two.all (h : Two w0 w bi a X di bj b Y dj) {L : Kvs} (hL : X a = L) (hlen : L.length ≤ 100) :
    Calls Try.prog 22 #[.pointer (some ⟨a, 0, none⟩)] w fun e w' => ∃ gb, e = .returned (.func (.func 31) #[] #[.pointer (some ⟨gb, 0, none⟩)]) ∧ It w' w.heap.size w'.heap.size gb L ∧ Below w.heap.size w w' := by
  obtain ⟨Si, Zi, mi, Sj, Zj, mj, h1, _⟩ := h
  subst hL
  exact all_any h1 (by simp) (by omega)
end
theorem pairs100 {w : World} {lo gb : Nat} {L : Kvs} (hI : It w lo w.heap.size gb L) (hlen : L.length ≤ 100) :
    Calls Try.prog 21 #[.func (.func 31) #[] #[.pointer (some ⟨gb, 0, none⟩)], .int .i64 100] w fun e w' => ∃ ao cap, e = .returned (.slice ao L.length cap) ∧ PRow w' 0 (.slice ao L.length cap) L ∧ Below w.heap.size w w' := by
  have h := pairs_any hI (Nat.le_refl _) (by omega) (m := 100) (by omega) (by omega)
  rw [List.take_of_length_le (by omega)] at h
  refine h.mono ?_
  rintro e w' ⟨v, rfl, p, b⟩
  obtain ⟨ao, cap, rfl, _, _⟩ := p.form
  exact ⟨ao, cap, rfl, p.lower (Nat.zero_le _), b⟩
/-- A map alone. -/
def oneM (a : Nat) (L : Kvs) : Nat → Kvs := upX (fun _ => []) a L
theorem oneM_same (a : Nat) (L : Kvs) : oneM a L a = L := upX_same _ _ _
theorem oneM_up (a : Nat) (L M : Kvs) : upX (oneM a L) a M = oneM a M := upX_up _ _ _ _
theorem oneM_len (a : Nat) {L : Kvs} {n : Nat} (h : L.length ≤ n) : ∀ b, (oneM a L b).length ≤ n := fun b => by
  unfold oneM
  by_cases e : b = a
  · rw [e, upX_same]; exact h
  · rw [upX_other _ e]; exact Nat.zero_le _
theorem Two.deeds1 {w0 w : World} {bi a : Nat} {L : Kvs} {di : Deeds} {bj b : Nat} {Y : Nat → Kvs} {dj : Deeds} (h : Two w0 w bi a (oneM a L) di bj b Y dj) {ao : Option Addr} {cap : Nat} {xs : List AcS} (hacts : ActsS w0 ao xs) (hok : ∀ x ∈ xs, x.Ok) (hlen : xs.length ≤ 1000) (hX : L.length ≤ 1000) (hds : di.length ≤ 10000) (hcap : xs.length ≤ cap) :
    Calls Try.prog 19 #[.pointer (some ⟨a, 0, none⟩), .slice ao xs.length cap] w fun e w' => e = .returned (.tuple #[]) ∧ ∃ ds', Two w0 w' bi a (oneM a (actsL xs L)) (di ++ ds') bj b Y dj ∧ undoN kyInt ds' (oneM a (actsL xs L)) = oneM a L ∧ ds'.length = cntA xs L := by
  have := h.deeds hacts hok hlen (by rw [oneM_same]; exact hX) hds hcap
  rwa [oneM_same, oneM_up] at this
set_option maxHeartbeats 8000000 in
theorem stageBack_walk (ao0 : Option Addr) (cap0 : Nat) (xs0 : List AcS) (ao1 : Option Addr) (cap1 : Nat) (xs1 : List AcS) (ao2 : Option Addr) (cap2 : Nat) (xs2 : List AcS) (w : World)
    (h0 : xs0.length ≤ cap0 ∧ cap0 ≤ maxLen ∧ ActsS w ao0 xs0 ∧ ∀ x ∈ xs0, AcS.Ok x) (h1 : xs1.length ≤ cap1 ∧ cap1 ≤ maxLen ∧ ActsS w ao1 xs1 ∧ ∀ x ∈ xs1, AcS.Ok x) (h2 : xs2.length ≤ cap2 ∧ cap2 ≤ maxLen ∧ ActsS w ao2 xs2 ∧ ∀ x ∈ xs2, AcS.Ok x) :
    Calls Try.prog 4 #[.slice ao0 xs0.length cap0, .slice ao1 xs1.length cap1, .slice ao2 xs2.length cap2] w fun e w' => e = .returned (.bool true) ∧ Below w.heap.size w w' := by
  obtain ⟨hcap0, _, ha0, hok0⟩ := h0
  obtain ⟨hcap1, _, ha1, hok1⟩ := h1
  obtain ⟨hcap2, _, ha2, hok2⟩ := h2
  have A0 := hide ha0
  have A1 := hide ha1
  have A2 := hide ha2
  have K0 := hide hok0
  have K1 := hide hok1
  have K2 := hide hok2
  clear ha0 ha1 ha2 hok0 hok1 hok2
  by_cases hlen : (xs0.length ≤ 30 ∧ xs1.length ≤ 30) ∧ xs2.length ≤ 30
  · obtain ⟨⟨hl0, hl1⟩, hl2⟩ := hlen
    have d0 : decide ((30 : Int) < (xs0.length : Int)) = false := decide_eq_false (by omega)
    have d1 : decide ((30 : Int) < (xs1.length : Int)) = false := decide_eq_false (by omega)
    have d2 : decide ((30 : Int) < (xs2.length : Int)) = false := decide_eq_false (by omega)
    go_enter Try.func4, Try.ntmps4
    go_wp2_with fail
    refine (lives12_any w).mono ?_
    rintro e w1 ⟨rfl, b1⟩
    have B1 := hide b1
    replace A0 := hide (A0.out.below b1)
    replace A1 := hide (A1.out.below b1)
    replace A2 := hide (A2.out.below b1)
    clear b1
    have J1 := St.laid w1 27
    have J2 := St.laid (w1.alloc (.cells #[.slice none 0 0] 27)) 27
    rw [World.size_alloc] at J2
    obtain ⟨wJ, hwJ⟩ : ∃ wJ, (w1.alloc (.cells #[.slice none 0 0] 27)).alloc (.cells #[.slice none 0 0] 27) = wJ := ⟨_, rfl⟩
    have HJ := hide hwJ
    have hz : wJ.heap.size = w1.heap.size + 2 := by rw [← hwJ]; simp
    have HZ := hide hz
    have bJ : Below w1.heap.size w1 wJ := by rw [← hwJ]; exact bAl (bAl (bMe w1))
    have BJ := hide bJ
    rw [hwJ] at J2
    replace J1 := J1.below (bAl (o := .cells #[.slice none 0 0] 27) (bMe _))
    rw [hwJ] at J1
    have C := hide (snew_any J1)
    have HJ1 := hide J1
    have HJ2 := hide J2
    clear J1 J2 hwJ hz bJ
    go_wp2_with fail
    rw [HJ.out]
    refine C.out.mono ?_
    clear C
    rintro e w2 ⟨rfl, b2, Si, Zi, mi, q1, q2⟩
    have C := hide (snew_any (HJ2.out.below b2))
    have Q1 := hide q1
    have Q2 := hide q2
    have B2 := hide b2
    clear q1 q2 b2
    go_wp2_with fail
    refine C.out.mono ?_
    clear C
    rintro e w3 ⟨rfl, b3, Sj, Zj, mj, q1, q2⟩
    obtain ⟨a, hea⟩ : ∃ a, wJ.heap.size + 1 = a := ⟨_, rfl⟩
    obtain ⟨b, heb⟩ : ∃ b, w2.heap.size + 1 = b := ⟨_, rfl⟩
    obtain ⟨bi, hbi⟩ : ∃ bi, w1.heap.size = bi := ⟨_, rfl⟩
    have T0 : Hid (Two w1 w3 bi a (oneM a []) [] (bi + 1) b (oneM b []) []) := by
      rw [← hea, ← heb, ← hbi]
      refine ⟨Si, Zi, mi, Sj, Zj, mj, Q1.out.below b3, q1, ?_, ?_, ?_, ?_⟩
      · intro k e1 e2
        have l1 := Q1.out.low k e1
        have := HZ.out
        rcases q2.own k e2 with e2 | e2
        · rcases Q2.out.own k e1 with e1 | e1 <;> omega
        · omega
      · intro k e1
        have := HZ.out
        rcases Q2.out.own k e1 with e1 | e1 <;> omega
      · intro k e1
        have := HZ.out
        have := B2.out.size
        rcases q2.own k e1 with e1 | e1 <;> omega
      · exact (BJ.out.trans (B2.out.mono BJ.out.size)).trans (b3.mono (BJ.out.trans (B2.out.mono BJ.out.size)).size)
    rw [hea, heb, hbi]
    clear q1 q2 b3 Q1 Q2 B2 HJ1 HJ2 HJ HZ hea heb hbi
    have C := hide (T0.out.deeds1 A0.out K0.out (by omega) (by simp) (by simp) hcap0)
    go_wp2_with fail
    refine C.out.mono ?_
    clear C
    rintro e w4 ⟨rfl, d1, t1, u1, n1⟩
    rw [List.nil_append] at t1
    obtain ⟨L1, eL1⟩ : ∃ L1, actsL xs0 [] = L1 := ⟨_, rfl⟩
    obtain ⟨L2, eL2⟩ : ∃ L2, actsL xs1 L1 = L2 := ⟨_, rfl⟩
    obtain ⟨L3, eL3⟩ : ∃ L3, actsL xs2 L1 = L3 := ⟨_, rfl⟩
    have hL1 := actsL_len xs0 []
    have hL2 := actsL_len xs1 L1
    have hL3 := actsL_len xs2 L1
    have hc0 := cntA_le xs0 []
    have hc1 := cntA_le xs1 L1
    have hc2 := cntA_le xs2 L1
    obtain ⟨c0, ec0⟩ : ∃ c0, cntA xs0 [] = c0 := ⟨_, rfl⟩
    obtain ⟨c1, ec1⟩ : ∃ c1, cntA xs1 L1 = c1 := ⟨_, rfl⟩
    obtain ⟨c2, ec2⟩ : ∃ c2, cntA xs2 L1 = c2 := ⟨_, rfl⟩
    have C := hide (t1.swap.deeds1 A0.out K0.out (by omega) (by simp) (by simp) hcap0)
    rw [eL1, ec0] at C
    rw [eL1] at t1 u1 hL1
    rw [eL2] at hL2
    rw [eL3] at hL3
    rw [ec0] at n1 hc0
    rw [ec1] at hc1
    rw [ec2] at hc2
    simp only [List.length_nil, Nat.zero_add] at hL1
    have U1 := hide u1
    have hd1 : d1.length ≤ 30 := by omega
    have N1 := hide n1
    clear n1
    have EL2 := hide eL2
    have EL3 := hide eL3
    have EC1 := hide ec1
    have EC2 := hide ec2
    clear t1 u1 eL1 eL2 eL3 ec0 ec1 ec2
    go_wp2_with fail
    refine C.out.mono ?_
    clear C T0
    rintro e w5 ⟨rfl, d2, t2, _, n2⟩
    rw [List.nil_append] at t2
    have hd2 : d2.length ≤ 30 := by omega
    have N2 := hide n2
    clear n2
    have T2 := hide t2.swap
    clear t2
    have C := hide T2.out.mark
    go_wp2_with fail
    refine C.out.mono ?_
    clear C
    rintro e w6 ⟨rfl, rfl⟩
    have C := hide (T2.out.deeds1 A1.out K1.out (by omega) (by omega) (by omega) hcap1)
    rw [EL2.out, EC1.out] at C
    go_wp2_with fail
    refine C.out.mono ?_
    clear C T2
    rintro e w7 ⟨rfl, d3, t3, u3, n3⟩
    have hd3 : d3.length ≤ 30 := by omega
    clear n3
    have hbl : ∀ c, (oneM a L2 c).length ≤ 100000 := oneM_len a (by omega)
    have C := hide (t3.back d1.length (by simp) (by simp; omega) hbl)
    rw [List.drop_left, List.take_left, u3] at C
    clear t3 u3 hbl
    go_wp2_with fail
    refine C.out.mono ?_
    clear C
    rintro e w8 ⟨rfl, t4⟩
    have T4 := hide t4
    clear t4
    have C := hide T4.out.mark
    go_wp2_with fail
    refine C.out.mono ?_
    clear C
    rintro e w9 ⟨rfl, rfl⟩
    have C := hide (T4.out.all (L := L1) (oneM_same _ _) (by omega))
    go_wp2_with fail
    refine C.out.mono ?_
    clear C
    rintro e w10 ⟨gb, rfl, i1, b1⟩
    have C := hide (pairs100 i1 (by omega))
    have T5 := hide (T4.out.below b1)
    clear T4 i1 b1
    go_wp2_with fail
    refine C.out.mono ?_
    clear C
    rintro e w11 ⟨ao3, cap3, rfl, p1, b1⟩
    have T6 := hide (T5.out.below b1)
    have P1 := hide p1
    clear T5 p1 b1
    have C := hide (T6.out.swap.all (L := L1) (oneM_same _ _) (by omega))
    go_wp2_with fail
    refine C.out.mono ?_
    clear C
    rintro e w12 ⟨gb2, rfl, i1, b1⟩
    have C := hide (pairs100 i1 (by omega))
    have T7 := hide (T6.out.below b1)
    replace P1 := hide (P1.out.below b1)
    clear T6 i1 b1
    go_wp2_with fail
    refine C.out.mono ?_
    clear C
    rintro e w13 ⟨ao4, cap4, rfl, p2, b1⟩
    have T8 := hide (T7.out.below b1)
    have C := hide (same_any (P1.out.below b1) p2 (by omega))
    clear T7 P1 p2 b1
    go_wp2_with fail
    refine C.out.mono ?_
    clear C
    rintro e w14 ⟨rfl, m1, rfl⟩
    have T9 := hide (T8.out.below (bDr (bMe w13) m1))
    generalize w13.drewN m1 = w14 at *
    clear T8
    have C := hide (T9.out.deeds1 A2.out K2.out (by omega) (by omega) (by omega) hcap2)
    rw [EL3.out, EC2.out] at C
    go_wp2_with fail
    refine C.out.mono ?_
    clear C T9
    rintro e w15 ⟨rfl, d4, t10, u10, n10⟩
    have hd4 : d4.length ≤ 30 := by omega
    have N10 := hide n10
    have U10 := hide u10
    clear n10 u10
    have C := hide (t10.swap.deeds1 A2.out K2.out (by omega) (by omega) (by omega) hcap2)
    rw [EL3.out, EC2.out] at C
    clear t10
    go_wp2_with fail
    refine C.out.mono ?_
    clear C
    rintro e w16 ⟨rfl, d5, t11, _, n11⟩
    have T11 := hide t11.swap
    have hm1 : (d1 ++ d4).length = c0 + c2 := by rw [List.length_append, N1.out, N10.out]
    have hm2 : (d2 ++ d5).length = c0 + c2 := by rw [List.length_append, N2.out, n11]
    have C := hide T11.out.mark
    rw [hm1] at C
    have C2 := hide T11.out.swap.mark
    rw [hm2] at C2
    clear t11 n11 hm1 hm2
    go_wp2_with fail
    refine C.out.mono ?_
    clear C
    rintro e w17 ⟨rfl, rfl⟩
    go_wp2_with fail
    refine C2.out.mono ?_
    clear C2
    rintro e w18 ⟨rfl, rfl⟩
    have C := hide (T11.out.all (L := L3) (oneM_same _ _) (by omega))
    go_wp2_with fail
    refine C.out.mono ?_
    clear C
    rintro e w19 ⟨gb3, rfl, i1, b1⟩
    have C := hide (pairs100 i1 (by omega))
    have T12 := hide (T11.out.below b1)
    clear T11 i1 b1
    go_wp2_with fail
    refine C.out.mono ?_
    clear C
    rintro e w20 ⟨ao5, cap5, rfl, p1, b1⟩
    have T13 := hide (T12.out.below b1)
    have P1 := hide p1
    clear T12 p1 b1
    have C := hide (T13.out.swap.all (L := L3) (oneM_same _ _) (by omega))
    go_wp2_with fail
    refine C.out.mono ?_
    clear C
    rintro e w21 ⟨gb4, rfl, i1, b1⟩
    have C := hide (pairs100 i1 (by omega))
    have T14 := hide (T13.out.below b1)
    replace P1 := hide (P1.out.below b1)
    clear T13 i1 b1
    go_wp2_with fail
    refine C.out.mono ?_
    clear C
    rintro e w22 ⟨ao6, cap6, rfl, p2, b1⟩
    have T15 := hide (T14.out.below b1)
    have C := hide (same_any (P1.out.below b1) p2 (by omega))
    clear T14 P1 p2 b1
    go_wp2_with fail
    refine C.out.mono ?_
    clear C
    rintro e w23 ⟨rfl, m2, rfl⟩
    have T16 := T15.out.below (bDr (bMe w22) m2)
    generalize w22.drewN m2 = w23 at *
    clear T15
    have hbl : ∀ c, (oneM a L3 c).length ≤ 100000 := oneM_len a (by omega)
    have C := hide (T16.back 0 (Nat.zero_le _) (by simp; omega) hbl)
    rw [List.drop_zero, List.take_zero, undoN_append, U10.out, U1.out] at C
    clear T16 hbl
    go_wp2_with fail
    refine C.out.mono ?_
    clear C
    rintro e w24 ⟨rfl, t17⟩
    have T17 := hide t17
    clear t17
    have C := hide T17.out.len
    rw [oneM_same] at C
    have C2 := hide T17.out.mark
    go_wp2_with fail
    refine C.out.mono ?_
    clear C
    rintro e w25 ⟨rfl, rfl⟩
    go_wp2_with fail
    refine C2.out.mono ?_
    clear C2
    rintro e w26 ⟨rfl, rfl⟩
    go_wp2
    go_ret
    exact ⟨rfl, B1.out.trans (T17.out.bel.mono B1.out.size)⟩
  · go_enter Try.func4, Try.ntmps4
    go_wp2_with fail
    refine (lives12_any w).mono ?_
    rintro e w1 ⟨rfl, b1⟩
    have B1 := hide b1
    clear b1
    have C := hide (lives12_any w1)
    by_cases g0 : 30 < xs0.length
    · have d0 : decide ((30 : Int) < (xs0.length : Int)) = true := decide_eq_true (by omega)
      go_wp2_with (go_at_call 6; refine C.out.mono ?_; clear C; rintro e w2 ⟨rfl, b2⟩)
      go_ret
      exact ⟨rfl, B1.out.trans (b2.mono B1.out.size)⟩
    · have d0 : decide ((30 : Int) < (xs0.length : Int)) = false := decide_eq_false (by omega)
      by_cases g1 : 30 < xs1.length
      · have d1 : decide ((30 : Int) < (xs1.length : Int)) = true := decide_eq_true (by omega)
        go_wp2_with (go_at_call 6; refine C.out.mono ?_; clear C; rintro e w2 ⟨rfl, b2⟩)
        go_ret
        exact ⟨rfl, B1.out.trans (b2.mono B1.out.size)⟩
      · have d1 : decide ((30 : Int) < (xs1.length : Int)) = false := decide_eq_false (by omega)
        have d2 : decide ((30 : Int) < (xs2.length : Int)) = true := decide_eq_true (by omega)
        go_wp2_with (go_at_call 6; refine C.out.mono ?_; clear C; rintro e w2 ⟨rfl, b2⟩)
        go_ret
        exact ⟨rfl, B1.out.trans (b2.mono B1.out.size)⟩
end Go.Proofs.Ytnjijnphjiiceaa
