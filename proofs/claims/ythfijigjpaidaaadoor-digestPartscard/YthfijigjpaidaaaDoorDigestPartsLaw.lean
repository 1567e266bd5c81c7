/- The walk of sponsionlaw05.DigestParts over this translation. -/
import Derived.Test.YthfijigjpaidaaaDoorDigLives
import Derived.Test.YthfijigjpaidaaaDoorHashEq
import Derived.LaidEqlPtr
namespace Go.Proofs.YthfijigjpaidaaaDoor
open Go.RowKit Go.Lib
theorem same_st (g : Nat) (w : World) : (binOp .neq 30 (.pointer (some ⟨g, 0, none⟩)) (.pointer (some ⟨g, 0, none⟩))).run Tryd.prog w = .ok (.bool false) w := by
  have h : (Tryd.prog.info? 48).isSome = true := by kernel_rfl
  obtain ⟨i, hi⟩ := Option.isSome_iff_exists.1 h
  exact run_neq_ptr_same w _ Tryd.underlying30 hi
attribute [local go_sem] setCell_drewN alloc_drewN eqHash sameH_self same_st

theorem Bs.some5 {w : World} {B oc : Nat} {oo : Option Addr} {l : List Int} (h : Bs w B (.slice oo l.length oc) l) (hl : 0 < l.length) : ∃ g, oo = some ⟨g, 0, none⟩ ∧ B ≤ g ∧ g < w.heap.size ∧ (∀ j, j < l.length → w.cell? ⟨g, j, none⟩ = some (.int .u8 (l.getD j 0))) ∧ ∀ j, w.frozen? ⟨g, j, none⟩ = false := by
  have hlt := h.lt
  rcases h.2 with ⟨e, e2⟩ | ⟨g, cap, cur, e, hb, r⟩
  · omega
  · simp only [Value.slice.injEq, true_and] at e
    obtain ⟨rfl, rfl⟩ := e
    exact ⟨g, rfl, hb, (hlt g rfl).2, fun j hj => by rw [World.ownsRow.cellAt h j (by omega), bv_get hj], fun j => World.ownsRow.frozenAt h j⟩
theorem Bs.off5 {w : World} {B oc g : Nat} {oo : Option Addr} {l : List Int} (h : Bs w B (.slice oo l.length oc) l) (hg : g < B) : Off oo l g := by
  by_cases hl : 0 < l.length
  · obtain ⟨k, rfl, hk, _⟩ := h.some5 hl
    exact .inr (fun a e => by cases e; show k ≠ g; omega)
  · exact .inl (List.eq_nil_of_length_eq_zero (by omega))
/-- What stands between two parts: a State of l1, all bytes l2. -/
structure PD (w0 w : World) (g : Nat) (l1 l2 : List Int) (v : Value) : Prop where
  st : ∃ bl, SS w g l1 bl ∧ ∀ j, 0 ≤ bl j ∧ bl j < 256
  all : Bs w (g + 1) v l2
  lo : w0.heap.size ≤ g ∧ g < w.heap.size
  below : Below w0.heap.size w0 w
theorem PD.after {w0 w w' : World} {g : Nat} {l1 l2 : List Int} {v : Value} (d : PD w0 w g l1 l2 v) (hb : Below w.heap.size w w') : PD w0 w' g l1 l2 v := by
  obtain ⟨bl, s, h⟩ := d.st
  exact ⟨⟨bl, ⟨s.sb.after hb rfl, s.rest⟩, h⟩, d.all.below hb, ⟨d.lo.1, Nat.lt_of_lt_of_le d.lo.2 hb.size⟩, bOn d.below hb⟩
theorem PD.added {w0 w w' : World} {g : Nat} {l1 l2 l3 : List Int} {v : Value} (d : PD w0 w g l1 l2 v) (hb : Bar g w w') (hs : ∃ bl, SS w' g l3 bl ∧ ∀ j, 0 ≤ bl j ∧ bl j < 256) : PD w0 w' g l3 l2 v :=
  ⟨hs, d.all.of (fun k hk => hb.block k (d.all.lt k hk).2 (by have := (d.all.lt k hk).1; omega)), ⟨d.lo.1, Nat.lt_of_lt_of_le d.lo.2 hb.size⟩, hb.below d.below d.lo.1 d.below.size⟩
theorem PD.aside {w0 w w' : World} {g h : Nat} {l1 l2 : List Int} {v : Value} (d : PD w0 w g l1 l2 v) (hb : Bar h w w') (hg : g < h) (hv : ∀ k, v.ownBlock = some k → k ≠ h) : PD w0 w' g l1 l2 v := by
  obtain ⟨bl, s, hh⟩ := d.st
  exact ⟨⟨bl, ⟨s.sb.bar hb (by omega), s.rest⟩, hh⟩, d.all.of (fun k hk => hb.block k (d.all.lt k hk).2 (hv k hk)), ⟨d.lo.1, Nat.lt_of_lt_of_le d.lo.2 hb.size⟩, hb.below d.below (by have := d.lo.1; omega) d.below.size⟩
theorem PD.grown {w0 w w' : World} {g : Nat} {l1 l2 l3 : List Int} {v v' : Value} (d : PD w0 w g l1 l2 v) (hv : Bs w' (g + 1) v' l3) (hg : w.grownBy w' v.ownBlock) : PD w0 w' g l1 l3 v' := by
  obtain ⟨bl, s, hh⟩ := d.st
  have hne : v.ownBlock ≠ some g := fun e => by have := (d.all.lt g e).1; omega
  exact ⟨⟨bl, ⟨s.sb.of hg.size (hg.block g d.lo.2 hne.symm), s.rest⟩, hh⟩, hv, ⟨d.lo.1, Nat.lt_of_lt_of_le d.lo.2 hg.size⟩, d.all.grown d.below (by have := d.lo.1; omega) hg⟩
theorem byt_cat {w : World} {ao : Option Addr} {ps : List Prt} (h : Parts w ao ps) : Byt (cat ps) := by
  intro x hx
  unfold cat at hx
  obtain ⟨l, hl, hx⟩ := List.mem_flatten.1 hx
  obtain ⟨p, hp, rfl⟩ := List.mem_map.1 hl
  rcases h with rfl | ⟨b, off, _, _, hc⟩
  · simp at hp
  · obtain ⟨j, hj⟩ := List.getElem?_of_mem hp
    exact (hc j p hj).2.byt x hx
set_option maxRecDepth 100000 in
set_option maxHeartbeats 8000000 in
theorem digestParts_walk (ao : Option Addr) (cap : Nat) (ps : List Prt) (w : World) (hb : ps.length ≤ cap ∧ cap ≤ maxLen ∧ Parts w ao ps ∧ ∀ q ∈ ps, q.ao = none → q.cap = 0) (ht : Tab w 1) :
    Calls Tryd.prog 4 #[.slice ao ps.length cap] w fun e w' => e = .returned (.bool true) ∧ Below w.heap.size w w' := by
  obtain ⟨h1, h2, h3, h4⟩ := hb
  unfold maxLen at h2
  have hli : (ps.length : Int) ≤ 9223372036854775807 := by omega
  have HT := hide ht; have HP := hide h3; have HN := hide h4
  clear ht h3 h4
  by_cases hlen : ps.length ≤ 12
  · have hl4 : ¬ (12 : Int) < (ps.length : Int) := by omega
    go_enter Tryd.func4, Tryd.ntmps4
    go_wp2_with fail
    refine (lives5_any w HT.out).mono ?_
    rintro e w1 ⟨rfl, hb1⟩
    have B := hide hb1
    clear hb1
    go_wp2_with fail
    refine (new_any w1).mono ?_
    rintro e w2 ⟨rfl, hs, hb2⟩
    have D : Hid (PD w w2 w1.heap.size [] [] (.slice none 0 0)) := ⟨⟨_, hs, fun _ => by omega⟩, World.ownsRow_nil _ _ _ _, ⟨B.out.size, hs.sb.lt⟩, bOn B.out hb2⟩
    clear hs hb2 B
    generalize w1.heap.size = g at *
    go_wp2
    go_loopg [4, 20] ps.length (fun gk t4 t20 wr => ∃ k : Nat, gk + k = ps.length ∧ t20 = .int .i64 k ∧ PD w wr g (cat (ps.take k)) (cat (ps.take k)) t4 ∧ Hid ((cat (ps.take k)).length ≤ 200 * k))
    case atStart => exact ⟨0, by omega, rfl, by simpa [cat] using D.out, by show _ ≤ _; simp [cat]⟩
    case round =>
      clear D
      obtain ⟨k, hk, rfl, hd, HC⟩ := hrel
      have D := hide hd; have HK := hide hk
      clear hd hk
      obtain ⟨ao4, cap4, rfl, -, -, -⟩ := D.out.all.cell
      by_cases hlt : k < ps.length
      · have hki : (k : Int) < (ps.length : Int) := by omega
        obtain ⟨p, hp⟩ : ∃ p, ps[k]? = some p := ⟨ps[k], by simp [hlt]⟩
        have HS := hide (cat_snoc ps k p hp)
        have hpn := HN.out p (List.mem_of_getElem? hp)
        have ck : ∃ b off, ao = some ⟨b, off, none⟩ ∧ wr.cell? ⟨b, off + k, none⟩ = some (.slice p.ao p.l.length p.cap) ∧ PtOk w p := by
          rcases HP.out with h0 | ⟨b, off, e, hl, hc⟩
          · rw [h0] at hlt; simp at hlt
          · exact ⟨b, off, e, (D.out.below.cell (p := ⟨b, off + k, none⟩) hl).trans (hc k p hp).1, (hc k p hp).2⟩
        obtain ⟨b, off, rfl, ck, hok⟩ := ck
        obtain ⟨pa, pc, pl⟩ := p
        simp only [] at ck hpn HS
        have HOK := hide hok; have HPN := hide hpn
        have hpl : (pl.length : Int) ≤ 9223372036854775807 := by have h1 := hok.len; have h2 := hok.cap; unfold maxLen at h2; simp only [] at h1 h2; omega
        clear hok hpn hp
        obtain ⟨L, hL⟩ : ∃ L, cat (ps.take k) = L := ⟨_, rfl⟩
        rw [hL] at D HC HS
        rw [hL]
        clear hL
        by_cases h200 : pl.length ≤ 200
        · have h2i : ¬ (200 : Int) < (pl.length : Int) := by omega
          have hL24 : L.length + pl.length ≤ 200 * (k + 1) := by have := HC.out; omega
          have hgw : Hid (g < wr.heap.size ∧ w.heap.size ≤ g) := ⟨D.out.lo.2, D.out.lo.1⟩
          have hvn : Hid (∀ j, (Value.slice ao4 L.length cap4).ownBlock = some j → j < wr.heap.size) := fun j hj => (D.out.all.lt j hj).2
          have HBY : Hid (Byt (L ++ pl)) := by
            show Byt _
            rw [← HS.out]
            intro x hx
            exact byt_cat HP.out x (by rw [cat_split ps (k + 1)]; exact List.mem_append_left _ hx)
          have HTG : Hid (1 ≠ g) := by have := HT.out.1; have := hgw.out.2; show _ ≠ _; omega
          go_wp2_with (at_builtin; refine wpList_app rfl _ _ rfl (.slice (some ⟨wr.heap.size, 0, none⟩) 0 0) [] pl _ _ _ rfl rfl rfl (empty5 wr) ((HOK.out.lies.below D.out.below).below (bAl (bMe wr))) HPN.out (by simp; omega) (by simp) ?_)
          intro v2 w2 hb2 hg2 hn2
          have B2 := (empty5 wr).grown (bAl (bMe wr)) (Nat.le_refl _) hg2
          replace D := hide (D.out.after B2)
          obtain ⟨ao7, cap7, rfl, k1, k2, k3⟩ := hb2.cell
          have OW : Hid (Bs w2 wr.heap.size (.slice ao7 pl.length cap7) pl) := hb2
          have P2 : Hid (PtOk w2 ⟨ao7, cap7, pl⟩) := ⟨k3, k1, k2, HOK.out.byt⟩
          have hw2 : Hid (wr.heap.size ≤ w2.heap.size) := B2.size
          clear hb2 hg2 hn2 B2 k3 k1 k2 ck
          go_wp2_with fail
          obtain ⟨bl, s, hbl⟩ := D.out.st
          have hadd := adds_any (w := w2.alloc (.cells #[.slice ao7 pl.length cap7] 22)) (g := g) (l := L) (bl := bl) ⟨s.sb.past _, s.rest⟩ (some ⟨w2.heap.size, 0, none⟩) 1 [⟨ao7, cap7, pl⟩] (one_part ao7 cap7 pl P2.out _ rfl)
            ⟨.inr (fun a e => by cases e; show w2.heap.size ≠ g; have := hgw.out.1; have := hw2.out; omega), fun q hq => by simp at hq; subst hq; exact OW.out.off5 hgw.out.1⟩ (by rw [cat_one]; exact HBY.out) hbl (by rw [cat_one]; omega) (by simp) ((HT.out.below D.out.below).below (bAl (bMe w2))) HTG.out
          refine hadd.mono ?_
          rintro e w4 ⟨rfl, hs4, hb4⟩
          rw [cat_one] at hs4
          have D4 : Hid (PD w w4 g (L ++ pl) L (.slice ao4 L.length cap4)) := (D.out.after (bAl (bMe w2))).added hb4 hs4
          have OW4 : Hid (Bs w4 wr.heap.size (.slice ao7 pl.length cap7) pl) := (OW.out.below (bAl (bMe w2))).of (fun k hk => hb4.block k ((OW.out.below (bAl (bMe w2))).lt k hk).2 (by have := (OW.out.lt k hk).1; have := hgw.out.1; omega))
          have OF : Hid (0 < pl.length → ∃ h, ao7 = some ⟨h, 0, none⟩ ∧ (g < h ∧ w.heap.size ≤ h ∧ ∀ k, (Value.slice ao4 L.length cap4).ownBlock = some k → k ≠ h) ∧ (∀ j, j < pl.length → w4.cell? ⟨h, j, none⟩ = some (.int .u8 (pl.getD j 0))) ∧ ∀ j, w4.frozen? ⟨h, j, none⟩ = false) := by
            intro hp0
            obtain ⟨h, e, q1, q2, q3, q4⟩ := OW4.out.some5 hp0
            exact ⟨h, e, ⟨by have := hgw.out.1; omega, by have := hgw.out; omega, fun k hk => by have := hvn.out k hk; omega⟩, q3, q4⟩
          clear hs4 hb4 hadd s hbl D OW OW4 P2
          go_wp2
          go_loopg [42] pl.length (fun gk t wx => ∃ i : Nat, gk + i = pl.length ∧ t = .int .i64 i ∧ PD w wx g (L ++ pl) L (.slice ao4 L.length cap4) ∧ Hid (0 < pl.length → ∃ h, ao7 = some ⟨h, 0, none⟩ ∧ (g < h ∧ w.heap.size ≤ h ∧ ∀ k, (Value.slice ao4 L.length cap4).ownBlock = some k → k ≠ h) ∧ (∀ j, i ≤ j → j < pl.length → wx.cell? ⟨h, j, none⟩ = some (.int .u8 (pl.getD j 0))) ∧ ∀ j, wx.frozen? ⟨h, j, none⟩ = false))
          case atStart => exact ⟨0, by omega, rfl, D4.out, fun hp => by obtain ⟨h, e, q1, q2, q3⟩ := OF.out hp; exact ⟨h, e, q1, fun j _ hj => q2 j hj, q3⟩⟩
          case round =>
            clear D4 OF
            obtain ⟨i, hi, rfl, hd, OF⟩ := hrel
            have D := hide hd; have HI := hide hi
            clear hd hi
            by_cases hlti : i < pl.length
            · have hii : (i : Int) < (pl.length : Int) := by omega
              obtain ⟨h, rfl, q1, q2, q3⟩ := OF.out (by omega)
              have ci := q2 i (Nat.le_refl _) hlti
              have fi := q3 i
              obtain ⟨y0, y1⟩ := HOK.out.byt.get i
              simp only [] at y0 y1
              have Q1 := hide q1; have Q2 := hide q2; have Q3 := hide q3
              clear q1 q2 q3 OF
              generalize pl.getD i 0 = y at *
              go_wp2
              go_roundg (pl.length - i - 1)
              case measure => have := HI.out; omega
              case rel =>
                refine ⟨i + 1, by omega, by go_num, D.out.aside ((Bar.refl h wr).set i _) Q1.out.1 Q1.out.2.2, fun _ => ⟨h, rfl, Q1.out, fun j hj1 hj2 => ?_, fun j => by simp [go_sem, Q3.out]⟩⟩
                have hc := Q2.out j (by omega) hj2
                have hne : ¬ j = i := by omega
                simp [go_sem, hc]
                try exact fun h => absurd h hne
            · obtain rfl : i = pl.length := by have := HI.out; omega
              clear OF HI hlti
              go_wp2_with (at_builtin; refine wpList_app rfl _ _ rfl (.slice ao4 L.length cap4) L pl _ _ _ rfl rfl rfl D.out.all (HOK.out.lies.below D.out.below) HPN.out (by omega) (by have := D.out.lo; omega) ?_)
              intro v5 w5 hb5 hg5 hn5
              replace D := hide (D.out.grown hb5 hg5)
              obtain ⟨ao5, cap5, rfl, k1, k2, k3⟩ := hb5.cell
              have P5 : Hid (PtOk w5 ⟨ao5, cap5, L ++ pl⟩) := ⟨k3, k1, k2, HBY.out⟩
              have hM : (L ++ pl).length ≤ 900000 := by simp; omega
              have hMl : (L ++ pl).length ≤ 200 * (k + 1) := by simp; omega
              clear hb5 hg5 hn5 k3 k1 k2
              obtain ⟨M, hMe⟩ : ∃ M, L ++ pl = M := ⟨_, rfl⟩
              rw [hMe] at D P5 HBY HS hM hMl
              rw [hMe]
              have HML := hide hMl
              clear hMe hMl
              obtain ⟨bl5, s5, hbl5⟩ := D.out.st
              have S5 := hide s5; have HBL5 := hide hbl5
              clear s5 hbl5
              go_wp2_with fail
              refine (ssum_any S5.out HBY.out HBL5.out hM (HT.out.below D.out.below)).mono ?_
              rintro e w6 ⟨rfl, hb6⟩
              replace D := hide (D.out.after hb6); replace P5 := hide (P5.out.below hb6)
              replace S5 : Hid (SS w6 g M bl5) := ⟨S5.out.sb.after hb6 rfl, S5.out.rest⟩
              clear hb6
              go_wp2_with fail
              refine (dsum_one ao5 cap5 M P5.out hM (HT.out.below D.out.below) 22 (g := w6.heap.size) rfl).mono ?_
              rintro e w7 ⟨rfl, hb7⟩
              replace D := hide (D.out.after hb7)
              replace S5 : Hid (SS w7 g M bl5) := ⟨S5.out.sb.after hb7 rfl, S5.out.rest⟩
              clear hb7 P5
              go_wp2_with fail
              refine (ssum_any S5.out HBY.out HBL5.out hM (HT.out.below D.out.below)).mono ?_
              rintro e w8 ⟨rfl, hb8⟩
              replace D := hide (D.out.after hb8)
              replace S5 : Hid (SS w8 g M bl5) := ⟨S5.out.sb.after hb8 rfl, S5.out.rest⟩
              clear hb8
              go_wp2_with fail
              refine (ssum_any S5.out HBY.out HBL5.out hM (HT.out.below D.out.below)).mono ?_
              rintro e w9 ⟨rfl, hb9⟩
              replace D := hide (D.out.after hb9)
              clear hb9 S5
              go_wp2
              go_roundg (ps.length - k - 1)
              case measure => have := HK.out; omega
              case rel => exact ⟨k + 1, by omega, by go_num, by rw [HS.out]; exact D.out, by rw [HS.out]; exact HML⟩
        · have h2i : (200 : Int) < (pl.length : Int) := by omega
          go_wp2
          go_ret
          exact ⟨rfl, D.out.below⟩
      · obtain rfl : k = ps.length := by have := HK.out; omega
        rw [List.take_length] at D HC
        rw [List.take_length]
        have hcl : (cat ps).length ≤ 900000 := by have := HC.out; omega
        obtain ⟨ao5, cap5, e5, k1, k2, k3⟩ := D.out.all.cell
        simp only [Value.slice.injEq, true_and] at e5
        obtain ⟨rfl, rfl⟩ := e5
        have P5 : Hid (PtOk wr ⟨ao4, cap4, cat ps⟩) := ⟨k3, k1, k2, byt_cat HP.out⟩
        clear k3 k1 k2 hlt HC HK
        go_wp2_with fail
        refine (dsum_any ao cap ps (HP.out.below D.out.below) (byt_cat HP.out) hcl (by omega) (HT.out.below D.out.below)).mono ?_
        rintro e w6 ⟨rfl, hb6⟩
        replace D := hide (D.out.after hb6); replace P5 := hide (P5.out.below hb6)
        clear hb6
        obtain ⟨M, hMe⟩ : ∃ M, cat ps = M := ⟨_, rfl⟩
        rw [hMe] at P5 hcl D
        rw [hMe]
        clear hMe
        go_wp2_with fail
        refine (dsum_one ao4 cap4 M P5.out hcl (HT.out.below D.out.below) 22 (g := w6.heap.size) rfl).mono ?_
        rintro e w7 ⟨rfl, hb7⟩
        replace D := hide (D.out.after hb7)
        clear hb7 P5
        go_wp2
        go_ret
        exact ⟨rfl, D.out.below⟩
  · have hl4 : (12 : Int) < (ps.length : Int) := by omega
    go_enter Tryd.func4, Tryd.ntmps4
    go_wp2_with fail
    refine (lives5_any w HT.out).mono ?_
    rintro e w1 ⟨rfl, hb1⟩
    have B := hide hb1
    clear hb1
    go_wp2_with fail
    refine (lives5_any w1 (HT.out.below B.out)).mono ?_
    rintro e w2 ⟨rfl, hb2⟩
    replace B := hide (bOn B.out hb2)
    clear hb2
    go_wp2
    go_ret
    exact ⟨rfl, B.out⟩
end Go.Proofs.YthfijigjpaidaaaDoor
