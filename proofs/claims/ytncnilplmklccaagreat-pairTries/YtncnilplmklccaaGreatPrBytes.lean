/- The contract of pair's count over this translation. The contract of pair's Bytes over this translation. -/
import Derived.Test.YtncnilplmklccaaGreatPrDeed
import Derived.Test.YtncnilplmklccaaGreatBkAll
import Derived.Test.YtncnilplmklccaaGreatPackMore
import Derived.Deep.MidRow
/- The contract of pair's count over this translation. -/
namespace Go.Proofs.YtncnilplmklccaaGreat
set_option linter.unusedSimpArgs false
set_option linter.unusedVariables false
open Go.RowKit Go.Lib Go.Shelf
attribute [local go_sem] setCell_drewN alloc_drewN Oper.semAt_some

/-- What the counting loop keeps. -/
def CtI (w : World) (g hi : Nat) (L : Kvs) (pre : List (Of L)) (W : World) : Prop :=
  W.heap[g]? = some (.cells #[.int .u32 pre.length] 77 (0, 0)) ∧ Below w.heap.size w W ∧ hi ≤ W.heap.size
theorem CtI.own (w : World) (g hi : Nat) (L : Kvs) {B : Nat} (hB : w.heap.size ≤ B) : OwnFrom B (CtI w g hi L) := fun s W W' row ⟨h1, h3, h4⟩ hg hr => by
  refine ⟨(hg.block g (Array.getElem?_eq_some_iff.1 h1).1 fun e => ?_).trans h1, h3.grown hg h3.size (fun k e => Nat.le_trans hB (hr k e).1), Nat.le_trans h4 hg.size⟩
  obtain ⟨o, q1, q2⟩ := (hr g e.symm).2
  rw [h1] at q1
  cases q1
  cases q2
set_option maxRecDepth 100000 in
set_option maxHeartbeats 4000000 in
theorem count_any {w : World} {S : Nat → Prop} {bj : Jk} {bb n : Nat} {h : Nat → Kvs} (B : Bk w S bj bb n h) (hn : n ≤ 10000) :
    Calls Tryz.prog 29 #[.pointer (some ⟨bb, 0, none⟩)] w fun e w' => e = .returned (.int .u32 ((h n).length : Nat)) ∧ Below w.heap.size w w' := by
  have hlen2 : (h n).length ≤ 72 := (B.good n (Nat.le_refl n)).2.1
  have hlen : (h n).length ≤ 100000 := by omega
  have HB := hide B
  clear B
  refine (callsIn_wide (n := 4)).1 ?_
  have hf1 : Fence.wide.fn 54 := trivial
  have hro : Fence.wide.round = none := rfl
  have hmix : Tryz.prog.follows .mixedOrders = true := by kernel_rfl
  refine callsIn_of_wp_marks Tryz.func29 rfl trivial ?_ rfl
  simp only [Tryz.ntmps29, List.size_toArray, List.length_cons, List.length_nil, Nat.reduceAdd, Nat.reduceSub, Array.replicate_succ, Array.replicate_zero, List.push_toArray, List.append_toArray, List.nil_append, List.cons_append]
  gi_wp2_with (gi_at_call 54; refine (callsIn_wide.2 (ball_any (HB.out.below (bAl (o := .cells #[.int .u32 0] 77) (bMe w))) hn)).mono ?_; rintro e w2 ⟨gb, rfl, hI, hb2⟩)
  have HI := hide hI
  have HB2 := hide hb2
  have h0 : CtI w w.heap.size w2.heap.size (h n) [] w2 := ⟨(hb2.block _ (by simp)).trans (World.alloc_heap_new w _), bOn (bAl (bMe w)) hb2, Nat.le_refl _⟩
  have e1 : (w.alloc (.cells #[.int .u32 0] 77)).heap.size = w.heap.size + 1 := by simp
  rw [e1] at HI
  clear hI hb2 e1
  refine wpIn_rangeFunc_ownH rfl (by omega) (gf := 77) (lb := #[.pointer (some ⟨gb, 0, none⟩)]) rfl trivial (enters_of Tryz.func77 (by kernel_rfl) rfl)
    (iter_stops Fence.wide 3 trivial rfl (by omega) hlen HI.out (Nat.le_refl _)) (fun h k => h.t k) (KIv.b (Nat.le_refl _)) (Below.refl _ _) (fun _ => rfl)
    (CtI w w.heap.size w2.heap.size (h n)) (fun _ _ _ => False)
    (CtI.own _ _ _ _ (by have := h0.2.1.size; exact this)) (fun _ _ _ _ _ hs _ _ => hs) h0
    (fun x a' W => ∃ u v, a' = { tmps := #[.pointer (some ⟨bb, 0, none⟩), undef, .int .u32 0, .pointer (some ⟨w.heap.size, 0, none⟩), .pointer (some ⟨bb, 0, none⟩), .func (.func 77) #[] #[.pointer (some ⟨gb, 0, none⟩)], u, v, undef, undef, undef], defers := [] })
    (fun x a' s W W' row ⟨u, v, h2⟩ hg hr => ⟨u, v, h2⟩) ?assign ?body ?done ?stop
  case assign =>
    intro l pre x W K hI hK
    have HK := hide hK
    have HI' := hide hI
    clear hK hI
    gi_wp2
    refine HK.out _ W ((KeepsOthers.refl W).from _) (KIv.refl _ _ _) HI'.out ⟨.agg #[.int .u8 x.1.1.1, .int .u8 x.1.1.2], .agg #[.int .u64 (lm x.1.2.1 0), .int .u64 (lm x.1.2.1 1), .int .u64 (lm x.1.2.1 2), .int .u64 (lm x.1.2.1 3)], ?_⟩
    simp
  case body =>
    rintro l pre x a' W hl _ ⟨hc, hB, hh⟩ ⟨u, v, rfl⟩ hlt
    have hgl : w.heap.size < w2.heap.size := by have := HB2.out.size; simp at this; omega
    have c0 : W.cell? ⟨w.heap.size, 0, none⟩ = some (.int .u32 pre.length) := by simp [World.cell?, hc]
    have f0 : W.frozen? ⟨w.heap.size, 0, none⟩ = false := by simp [World.frozen?, hc]
    have hwr : IntKind.u32.wrap ((pre.length : Int) + 1) = (pre.length : Int) + 1 := by rw [IntKind.wrap_u32]; omega
    gi_wp2
    have ne : ∀ k, k ≠ w.heap.size → (W.setCell ⟨w.heap.size, 0, none⟩ (.int .u32 ((pre.length : Int) + 1))).heap[k]? = W.heap[k]? := fun k hk => Below.heap_setCell _ _ _ _ hk
    have sz : (W.setCell ⟨w.heap.size, 0, none⟩ (.int .u32 ((pre.length : Int) + 1))).heap.size = W.heap.size := by simp [World.setCell]
    refine ⟨KeepsOthers.from ⟨by rw [sz]; exact Nat.le_refl _, fun k o hk ho => ?_⟩ _, fun k h1 h2 => ne k (by omega), ?_, hB.setCell (Nat.le_refl _) _, by rw [sz]; exact hh⟩
    · rw [ne k fun e => ?_, hk]
      subst e
      rw [hc] at hk
      cases hk
      cases ho
    · have := heap_setCell_same W w.heap.size 0 _ 77 (Value.int .u32 ((pre.length : Int) + 1)) hc
      rw [this]
      simp
  case done =>
    rintro D ys W hD hys ⟨hc, hB, hh⟩ hK
    have hgl := h0.2.1.size
    have c0 : W.cell? ⟨w.heap.size, 0, none⟩ = some (.int .u32 ys.length) := by simp [World.cell?, hc]
    have HK := hide hK
    have HBB := hide hB
    clear hK hB
    gi_wp2
    refine ⟨by simp, .inl ⟨_, _, rfl, run_takeDeferred HK.out, ?_⟩⟩
    refine ⟨_, results_tmp rfl _ _ _, ?_, HBB.out.trans (belowK_b (w := w) (Nat.le_refl _) W D _ _ (by omega) HK.out rfl rfl)⟩
    have hl := congrArg List.length hys
    rw [List.length_map] at hl
    rw [← hl]
    rfl
  case stop =>
    rintro D c pre W _ _ h _
    exact h.elim
end Go.Proofs.YtncnilplmklccaaGreat

/- The contract of pair's Bytes over this translation. -/
namespace Go.Proofs.YtncnilplmklccaaGreat
set_option linter.unusedSimpArgs false
set_option linter.unusedVariables false
open Go.RowKit Go.Lib
attribute [local go_sem] setCell_drewN alloc_drewN

/-- A writer of the call's own. -/
structure LP (w W : World) (g : Nat) (ao : Option Addr) (cap : Nat) (l : List Int) : Prop where
  wtr : Wtr W g ao cap l
  ge : w.heap.size ≤ g
  be : Below w.heap.size w W
theorem LP.after {w W W' : World} {g cap : Nat} {ao : Option Addr} {l : List Int} (h : LP w W g ao cap l) (hb : Below W.heap.size W W') : LP w W' g ao cap l := ⟨h.wtr.after hb rfl, h.ge, bOn h.be hb⟩
theorem LP.put {w W W' : World} {g cap cap' : Nat} {ao ao' : Option Addr} {l l' : List Int} (h : LP w W g ao cap l) (hw : Wtr W' g ao' cap' l') (hr : Wrote g ao ao' W W') : LP w W' g ao' cap' l' :=
  ⟨hw, h.ge, hr.below h.be h.ge fun k e => by have := h.wtr.row k e; have := h.ge; omega⟩
/-- What k books write; what nonces write. -/
def pT (L : Nat → Kvs) : Nat → List Int
  | 0 => []
  | k + 1 => pT L k ++ be ((L k).length : Nat) 4 ++ txt (L k)
def nT (N : List Int) : List Int := N.flatMap fun n => be n 8
def pairT (L : Nat → Kvs) (N : List Int) : List Int := pT L 2 ++ nT N
theorem nT_snoc {N : List Int} {k : Nat} {x : Int} (h : N[k]? = some x) : nT (N.take (k + 1)) = nT (N.take k) ++ be x 8 := by
  have hk := (List.getElem?_eq_some_iff.1 h).1
  have : N.take (k + 1) = N.take k ++ [x] := by
    rw [List.take_succ_eq_append_getElem hk]
    rw [List.getElem?_eq_getElem hk] at h
    injection h with h
    rw [h]
  rw [this]
  simp [nT]
theorem nT_length (N : List Int) : (nT N).length = N.length * 8 := by
  induction N with
  | nil => rfl
  | cons x r ih => unfold nT at ih ⊢; rw [List.flatMap_cons, List.length_append, ih, be_length, List.length_cons]; omega
theorem cnt_l {W w : World} {bj : Jk} {bb n : Nat} {h : Nat → Kvs} {Fr : Nat → Prop} (B : BS W w bj bb n h Fr) (hn : n ≤ 9000) :
    Calls Tryz.prog 29 #[.pointer (some ⟨bb, 0, none⟩)] w fun e w' => e = .returned (.int .u32 ((h n).length : Nat)) ∧ Below w.heap.size w w' := by
  obtain ⟨S, b, _⟩ := B.ex
  exact count_any b (by omega)
theorem idxB0 (a b : Value) (w : World) : (Instr.index 61 (.agg #[a, b]) (.int .i64 0)).run Tryz.prog w = .ok a w := by kernel_rfl
theorem idxB1 (a b : Value) (w : World) : (Instr.index 61 (.agg #[a, b]) (.int .i64 1)).run Tryz.prog w = .ok b w := by kernel_rfl
theorem info16 {N : List Int} (h : N.length = 16) : (Tryz.prog.info? 35).map (·.size) = some (uV N).length := by rw [show (uV N).length = 16 by simp [uV, h]]; kernel_rfl
theorem idx16 {N : List Int} (hN : N.length = 16) {k : Nat} {x : Int} (hk : N[k]? = some x) (w : World) : (Instr.index 35 (.agg (uV N).toArray) (.int .i64 k)).run Tryz.prog w = .ok (.int .u64 x) w := by
  have hz : (sizeOf 27).run Tryz.prog w = .ok 1 w := by kernel_rfl
  have ha : (isAgg 27).run Tryz.prog w = .ok false w := by kernel_rfl
  have hl := (List.getElem?_eq_some_iff.1 hk).1
  have hc : 0 ≤ (k : Int) ∧ (k : Int) < ((16 : Nat) : Int) := by omega
  unfold Instr.index
  simp only [asIntOf, Sem.run_bind, Sem.run_pure, Result.andThen_ok, run_underlying Tryz.underlying35, if_pos hc, hz]
  have hg := uV_get hk
  unfold part
  simp [ha, hg]
set_option maxHeartbeats 4000000 in
theorem bytes14_any {W w : World} {bp n : Nat} {P : List Value} {H : Nat → Nat → Kvs} {N : List Int} {Fr : Nat → Prop} (p : Pr W w bp P n H N Fr) (hn : n ≤ 9000) :
    Calls Tryz.prog 12 #[.pointer (some ⟨bp, 0, none⟩)] w fun e w' => ∃ v, e = .returned v ∧ Bs w' w.heap.size v (pairT (fun s => H s n) N) ∧ Below w.heap.size w w' := by
  obtain ⟨bj0, b0, F0, cb0, B0, _⟩ := p.side (s := 0) (by omega)
  obtain ⟨bj1, b1, F1, cb1, B1, _⟩ := p.side (s := 1) (by omega)
  have hl0 := (B0.good).2.1
  have hl1 := (B1.good).2.1
  obtain ⟨L, hL⟩ : ∃ L : Nat → Kvs, L = fun s => H s n := ⟨_, rfl⟩
  have hL0 : H 0 n = L 0 := by rw [hL]
  have hL1 : H 1 n = L 1 := by rw [hL]
  rw [← hL]
  have lb := cell_lt cb0
  have nl := p.nl
  have hN : ∀ W', Below w.heap.size w W' → W'.rangeAt bp 3 (uV N) := fun W' hb j v hv => by
    have hj : j < N.length := by have := (List.getElem?_eq_some_iff.1 hv).1; simpa [uV] using this
    have hv2 : v = .int .u64 (N[j]) := by simp [uV, hj] at hv; exact hv.symm
    subst hv2
    exact (p.below hb).cell (List.getElem?_eq_getElem hj)
  obtain ⟨w2, hw2⟩ : ∃ w2, w.alloc (.cells #[.slice none 0 0] 74) = w2 := ⟨_, rfl⟩
  have hb2 : Below w.heap.size w w2 := by rw [← hw2]; exact bAl (bMe w)
  have c0 : w2.cell? ⟨bp, 1, none⟩ = some (.pointer (some ⟨b0, 0, none⟩)) := ((bcell hb2).1 _ _ lb).trans cb0
  have c1 : w2.cell? ⟨bp, 2, none⟩ = some (.pointer (some ⟨b1, 0, none⟩)) := ((bcell hb2).1 _ _ lb).trans cb1
  obtain ⟨g, hg⟩ : ∃ g, w.heap.size = g := ⟨_, rfl⟩
  have L0 : Hid (LP w w2 g none 0 (pT L 0)) := by rw [← hw2, ← hg]; exact hide ⟨Wtr.new w _, Nat.le_refl _, bAl (bMe w)⟩
  have HB0 := hide B0
  have HB1 := hide B1
  have HN := hide hN
  have HLL := hide (And.intro hL0 hL1)
  have HG := hide hg
  have i0 := idxB0
  have i1 := idxB1
  clear p B0 B1 cb0 cb1 lb hN hL hb2 hL0 hL1
  go_enter Tryz.func12, Tryz.ntmps12
  go_wp2
  try rw [hg]
  clear hw2 hg c0 c1
  go_loopw [12] (fun t wr => ∃ (k : Nat) (ao : Option Addr) (cap : Nat), k ≤ 2 ∧ t = .int .i64 k ∧ LP w wr g ao cap (pT L k)) (fun t _ => (2 - intOf t).toNat)
  case atStart => exact ⟨0, _, _, by omega, rfl, L0.out⟩
  case round =>
    obtain ⟨k, ao, cap, hk, rfl, hlp⟩ := hrel
    clear L0
    have HP := hide hlp
    clear hlp
    by_cases hlt : k < 2
    · skip
      rw [HLL.out.1] at hl0
      rw [HLL.out.2] at hl1
      rcases (show k = 0 ∨ k = 1 by omega) with rfl | rfl
      · have hp : (pT L 0).length ≤ 0 := by simp [pT]
        have C1 := hide (cnt_l (HB0.out.below HP.out.be) hn)
        rw [HLL.out.1] at C1
        go_wp2_with fail
        refine C1.out.mono ?_
        clear C1
        rintro e w3 ⟨rfl, hb3⟩
        have HP3 := hide (HP.out.after hb3)
        have C2 := hide (u32_any HP3.out.wtr ((L 0).length : Nat) (by omega) (by omega) (by omega))
        clear hb3 HP
        go_wp2_with fail
        refine C2.out.mono ?_
        clear C2
        rintro e w4 ⟨rfl, ao4, cap4, hw4, hr4⟩
        have HP4 := hide (HP3.out.put hw4 hr4)
        have C3 := hide (bytes13_l (HB0.out.below HP4.out.be) hn)
        rw [HLL.out.1] at C3
        clear hw4 hr4 HP3
        go_wp2_with fail
        refine C3.out.mono ?_
        clear C3
        rintro e w5 ⟨v, rfl, hv, hb5⟩
        obtain ⟨so, c, rfl, _⟩ := hv.cell
        have HP5 := hide (HP4.out.after hb5)
        have C4 := hide (raw_any HP5.out.wtr so c (txt (L 0)) hv.at.1 hv.at.2 (by rw [List.length_append, be_length, txt_length]; omega))
        clear hv hb5 HP4
        go_wp2_with fail
        refine C4.out.mono ?_
        clear C4
        rintro e w6 ⟨rfl, ao6, cap6, hw6, hr6⟩
        have HP6 := hide (HP5.out.put hw6 hr6)
        clear hw6 hr6 HP5
        go_wp2
        go_roundw
        case rel => exact ⟨1, ao6, cap6, by omega, rfl, HP6.out⟩
        case measure => simp [intOf]
      · have hp : (pT L 1).length ≤ 3000 := by simp [pT, be_length, txt_length]; omega
        have C1 := hide (cnt_l (HB1.out.below HP.out.be) hn)
        rw [HLL.out.2] at C1
        go_wp2_with fail
        refine C1.out.mono ?_
        clear C1
        rintro e w3 ⟨rfl, hb3⟩
        have HP3 := hide (HP.out.after hb3)
        have C2 := hide (u32_any HP3.out.wtr ((L 1).length : Nat) (by omega) (by omega) (by omega))
        clear hb3 HP
        go_wp2_with fail
        refine C2.out.mono ?_
        clear C2
        rintro e w4 ⟨rfl, ao4, cap4, hw4, hr4⟩
        have HP4 := hide (HP3.out.put hw4 hr4)
        have C3 := hide (bytes13_l (HB1.out.below HP4.out.be) hn)
        rw [HLL.out.2] at C3
        clear hw4 hr4 HP3
        go_wp2_with fail
        refine C3.out.mono ?_
        clear C3
        rintro e w5 ⟨v, rfl, hv, hb5⟩
        obtain ⟨so, c, rfl, _⟩ := hv.cell
        have HP5 := hide (HP4.out.after hb5)
        have C4 := hide (raw_any HP5.out.wtr so c (txt (L 1)) hv.at.1 hv.at.2 (by rw [List.length_append, be_length, txt_length]; omega))
        clear hv hb5 HP4
        go_wp2_with fail
        refine C4.out.mono ?_
        clear C4
        rintro e w6 ⟨rfl, ao6, cap6, hw6, hr6⟩
        have HP6 := hide (HP5.out.put hw6 hr6)
        clear hw6 hr6 HP5
        go_wp2
        go_roundw
        case rel => exact ⟨2, ao6, cap6, by omega, rfl, HP6.out⟩
        case measure => simp [intOf]
    · obtain rfl : k = 2 := by omega
      have hp : (pT L 2).length ≤ 6000 := by rw [HLL.out.1] at hl0; rw [HLL.out.2] at hl1; simp [pT, be_length, txt_length]; omega
      go_wp2_with (refine wpList_load_mid rfl 35 _ rfl bp 3 rfl (uV N) _ ?hr Tryz.underlying35 rfl (info16 nl) ?_; (case hr => exact HN.out _ HP.out.be))
      go_loopw [26] (fun t wr => ∃ (k : Nat) (ao : Option Addr) (cap : Nat), k ≤ 16 ∧ t = .int .i64 k ∧ LP w wr g ao cap (pT L 2 ++ nT (N.take k))) (fun t _ => (16 - intOf t).toNat)
      case atStart => exact ⟨0, _, _, by omega, rfl, by simpa [nT] using HP.out⟩
      case round =>
        obtain ⟨k, ao, cap, hk, rfl, hlp⟩ := hrel
        clear HP
        have HP := hide hlp
        clear hlp
        by_cases hlt : k < 16
        · have hlt1 : (k : Int) < 16 := by omega
          obtain ⟨x, hx⟩ : ∃ x, N[k]? = some x := ⟨N[k]'(by omega), List.getElem?_eq_getElem _⟩
          have ix := fun w => idx16 nl hx w
          have C := hide (u64_any HP.out.wtr x (by rw [List.length_append, nT_length, List.length_take]; omega))
          rw [List.append_assoc, ← nT_snoc hx] at C
          clear hx
          go_wp2_with fail
          refine C.out.mono ?_
          clear C
          rintro e w4 ⟨rfl, ao4, cap4, hw4, hr4⟩
          have HP4 := hide (HP.out.put hw4 hr4)
          clear hw4 hr4
          go_wp2
          go_roundw
          case rel => exact ⟨k + 1, ao4, cap4, by omega, by simp, HP4.out⟩
          case measure => simp [intOf]; omega
        · obtain rfl : k = 16 := by omega
          have e16 : N.take 16 = N := List.take_of_length_le (by omega)
          rw [e16] at HP
          have C := hide (wbytes_any HP.out.wtr (by rw [List.length_append, nT_length]; omega))
          go_wp2_with fail
          refine C.out.mono ?_
          clear C
          rintro e w4 ⟨v, rfl, hv, hb⟩
          have HV := hide (And.intro (Bs.mono hv HP.out.be.size) (bOn HP.out.be hb))
          clear hv hb
          go_wp2
          go_ret
          exact ⟨v, rfl, HV.out⟩
end Go.Proofs.YtncnilplmklccaaGreat
