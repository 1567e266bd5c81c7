/- The walk of sponsionlaw10.TreeAgain over this translation (written by gen-treeagainlaw.py). -/
import Derived.Test.YtlkmebimgpigjaaDoorTreeLives
import Derived.OpenShut
namespace Go.Proofs.YtlkmebimgpigjaaDoor
open Go.RowKit Go.Lib
attribute [local go_sem] setCell_drewN alloc_drewN eqHash sameH_self

/-- A new box is stored into. -/
theorem new_hs {w : World} (F : Hs) : Below w.heap.size w ((w.alloc (.cells #[.int .u8 0, .int .u8 0, .int .u8 0, .int .u8 0, .int .u8 0, .int .u8 0, .int .u8 0, .int .u8 0, .int .u8 0, .int .u8 0, .int .u8 0, .int .u8 0, .int .u8 0, .int .u8 0, .int .u8 0, .int .u8 0, .int .u8 0, .int .u8 0, .int .u8 0, .int .u8 0, .int .u8 0, .int .u8 0, .int .u8 0, .int .u8 0, .int .u8 0, .int .u8 0, .int .u8 0, .int .u8 0, .int .u8 0, .int .u8 0, .int .u8 0, .int .u8 0] 32)).setCells w.heap.size 0 (rowV 32 F)) := setCells_below (bAl (bMe w)) (Nat.le_refl _) _ _
theorem new_row {w : World} (F : Hs) : BRow ((w.alloc (.cells #[.int .u8 0, .int .u8 0, .int .u8 0, .int .u8 0, .int .u8 0, .int .u8 0, .int .u8 0, .int .u8 0, .int .u8 0, .int .u8 0, .int .u8 0, .int .u8 0, .int .u8 0, .int .u8 0, .int .u8 0, .int .u8 0, .int .u8 0, .int .u8 0, .int .u8 0, .int .u8 0, .int .u8 0, .int .u8 0, .int .u8 0, .int .u8 0, .int .u8 0, .int .u8 0, .int .u8 0, .int .u8 0, .int .u8 0, .int .u8 0, .int .u8 0, .int .u8 0] 32)).setCells w.heap.size 0 (rowV 32 F)) w.heap.size 32 F := (BRow.zeros32 w rfl).stored F
/-- Two trees apart, and two boxes apart from them. -/
structure AQ (w0 w : World) (gt gu : Nat) (Lt Lu : List Hs) (g1 : Nat) (R1 : Hs) (g2 : Nat) (R2 : Hs) : Prop where
  trees : ∃ St Su : Nat → Prop, Tr w gt St 32 Lt ∧ Tr w gu Su 32 Lu ∧ (∀ k, St k → w0.heap.size ≤ k ∧ k ≠ g1 ∧ k ≠ g2 ∧ ¬ Su k) ∧ (∀ k, Su k → w0.heap.size ≤ k ∧ k ≠ g1 ∧ k ≠ g2)
  b1 : BRow w g1 32 R1
  b2 : BRow w g2 32 R2
  below : Below w0.heap.size w0 w
theorem AQ.after {w0 w w' : World} {gt gu : Nat} {Lt Lu : List Hs} {g1 : Nat} {R1 : Hs} {g2 : Nat} {R2 : Hs} (q : AQ w0 w gt gu Lt Lu g1 R1 g2 R2) (hb : Below w.heap.size w w') : AQ w0 w' gt gu Lt Lu g1 R1 g2 R2 := by
  obtain ⟨St, Su, h1, h2, h3, h4⟩ := q.trees
  exact ⟨⟨St, Su, h1.below hb, h2.below hb, h3, h4⟩, q.b1.after hb rfl, q.b2.after hb rfl, bOn q.below hb⟩
theorem AQ.again {w0 w : World} {gt gu : Nat} {Lt Lu : List Hs} {g1 : Nat} {R1 : Hs} {g2 : Nat} {R2 : Hs} (q : AQ w0 w gt gu Lt Lu g1 R1 g2 R2) : AQ w0 w gt gu Lt Lu g1 R1 g1 R1 := by
  obtain ⟨St, Su, h1, h2, h3, h4⟩ := q.trees
  exact ⟨⟨St, Su, h1, h2, fun k hk => ⟨(h3 k hk).1, (h3 k hk).2.1, (h3 k hk).2.1, (h3 k hk).2.2.2⟩, fun k hk => ⟨(h4 k hk).1, (h4 k hk).2.1, (h4 k hk).2.1⟩⟩, q.b1, q.b1, q.below⟩
theorem AQ.new {w0 w : World} {gt gu : Nat} {Lt Lu : List Hs} {g1 : Nat} {R1 : Hs} {g2 : Nat} {R2 : Hs} (q : AQ w0 w gt gu Lt Lu g1 R1 g2 R2) (x : Hs) : AQ w0 ((w.alloc (.cells #[.int .u8 0, .int .u8 0, .int .u8 0, .int .u8 0, .int .u8 0, .int .u8 0, .int .u8 0, .int .u8 0, .int .u8 0, .int .u8 0, .int .u8 0, .int .u8 0, .int .u8 0, .int .u8 0, .int .u8 0, .int .u8 0, .int .u8 0, .int .u8 0, .int .u8 0, .int .u8 0, .int .u8 0, .int .u8 0, .int .u8 0, .int .u8 0, .int .u8 0, .int .u8 0, .int .u8 0, .int .u8 0, .int .u8 0, .int .u8 0, .int .u8 0, .int .u8 0] 32)).setCells w.heap.size 0 (rowV 32 x)) gt gu Lt Lu g1 R1 w.heap.size x := by
  obtain ⟨St, Su, h1, h2, h3, h4⟩ := q.trees
  have hb := new_hs (w := w) x
  exact ⟨⟨St, Su, h1.below hb, h2.below hb, fun k hk => ⟨(h3 k hk).1, (h3 k hk).2.1, Nat.ne_of_lt (h1.box.low k hk), (h3 k hk).2.2.2⟩, fun k hk => ⟨(h4 k hk).1, (h4 k hk).2.1, Nat.ne_of_lt (h2.box.low k hk)⟩⟩, q.b1.after hb rfl, new_row x, bOn q.below hb⟩
/-- Two trees apart. -/
structure AG (w0 w : World) (gt gu : Nat) (Lt Lu : List Hs) : Prop where
  trees : ∃ St Su : Nat → Prop, Tr w gt St 32 Lt ∧ Tr w gu Su 32 Lu ∧ (∀ k, St k → w0.heap.size ≤ k ∧ ¬ Su k) ∧ (∀ k, Su k → w0.heap.size ≤ k)
  below : Below w0.heap.size w0 w
theorem AQ.two {w0 w : World} {gt gu : Nat} {Lt Lu : List Hs} {g1 : Nat} {R1 : Hs} {g2 : Nat} {R2 : Hs} (q : AQ w0 w gt gu Lt Lu g1 R1 g2 R2) : AG w0 w gt gu Lt Lu := by
  obtain ⟨St, Su, h1, h2, h3, h4⟩ := q.trees
  exact ⟨⟨St, Su, h1, h2, fun k hk => ⟨(h3 k hk).1, (h3 k hk).2.2.2⟩, fun k hk => (h4 k hk).1⟩, q.below⟩
theorem AG.after {w0 w w' : World} {gt gu : Nat} {Lt Lu : List Hs} (q : AG w0 w gt gu Lt Lu) (hb : Below w.heap.size w w') : AG w0 w' gt gu Lt Lu := by
  obtain ⟨St, Su, h1, h2, h3, h4⟩ := q.trees
  exact ⟨⟨St, Su, h1.below hb, h2.below hb, h3, h4⟩, bOn q.below hb⟩
theorem AG.new {w0 w : World} {gt gu : Nat} {Lt Lu : List Hs} (q : AG w0 w gt gu Lt Lu) (x : Hs) : AQ w0 ((w.alloc (.cells #[.int .u8 0, .int .u8 0, .int .u8 0, .int .u8 0, .int .u8 0, .int .u8 0, .int .u8 0, .int .u8 0, .int .u8 0, .int .u8 0, .int .u8 0, .int .u8 0, .int .u8 0, .int .u8 0, .int .u8 0, .int .u8 0, .int .u8 0, .int .u8 0, .int .u8 0, .int .u8 0, .int .u8 0, .int .u8 0, .int .u8 0, .int .u8 0, .int .u8 0, .int .u8 0, .int .u8 0, .int .u8 0, .int .u8 0, .int .u8 0, .int .u8 0, .int .u8 0] 32)).setCells w.heap.size 0 (rowV 32 x)) gt gu Lt Lu w.heap.size x w.heap.size x := by
  obtain ⟨St, Su, h1, h2, h3, h4⟩ := q.trees
  have hb := new_hs (w := w) x
  exact ⟨⟨St, Su, h1.below hb, h2.below hb, fun k hk => ⟨(h3 k hk).1, Nat.ne_of_lt (h1.box.low k hk), Nat.ne_of_lt (h1.box.low k hk), (h3 k hk).2⟩, fun k hk => ⟨h4 k hk, Nat.ne_of_lt (h2.box.low k hk), Nat.ne_of_lt (h2.box.low k hk)⟩⟩, new_row x, new_row x, bOn q.below hb⟩
theorem AQ.stepT {w0 w w' : World} {gt gu : Nat} {Lu : List Hs} {g1 : Nat} {R1 : Hs} {g2 : Nat} {R2 : Hs} {St Su : Nat → Prop} (b1 : BRow w g1 32 R1) (b2 : BRow w g2 32 R2) (hb : Below w0.heap.size w0 w) (h2 : Tr w gu Su 32 Lu)
    (h3 : ∀ k, St k → w0.heap.size ≤ k ∧ k ≠ g1 ∧ k ≠ g2 ∧ ¬ Su k) (h4 : ∀ k, Su k → w0.heap.size ≤ k ∧ k ≠ g1 ∧ k ≠ g2) {St' : Nat → Prop} {L' : List Hs} (ht : Tr w' gt St' 32 L') (m : Mv St St' w w') : AQ w0 w' gt gu L' Lu g1 R1 g2 R2 := by
  have low1 := b1.lt
  have low2 := b2.lt
  refine ⟨⟨St', Su, ht, h2.far m (fun k hk e => (h3 k e).2.2.2 hk), fun k hk => ?_, h4⟩, b1.of m.size (m.block _ b1.lt (fun e => (h3 _ e).2.1 rfl)), b2.of m.size (m.block _ b2.lt (fun e => (h3 _ e).2.2.1 rfl)), m.below hb (fun k hk => (h3 k hk).1)⟩
  rcases m.own k hk with e | e
  · exact h3 k e
  · exact ⟨Nat.le_trans hb.size e, by omega, by omega, fun e2 => by have := h2.box.low k e2; omega⟩
theorem AQ.appT {w0 w : World} {gt gu : Nat} {Lt Lu : List Hs} {g1 : Nat} {R1 : Hs} {g2 : Nat} {R2 : Hs} (q : AQ w0 w gt gu Lt Lu g1 R1 g2 R2) {x : Hs} (hx : Hok x) (hl : Lt.length < 1000) (ht : Tab w0 1) :
    Calls Tryd.prog 16 #[.pointer (some ⟨gt, 0, none⟩), .agg (rowV 32 x).toArray] w fun e w' => e = .returned (.tuple #[.int .u64 Lt.length, .int .i64 0]) ∧ AQ w0 w' gt gu (Lt ++ [x]) Lu g1 R1 g2 R2 := by
  obtain ⟨St, Su, h1, h2, h3, h4⟩ := q.trees
  refine (append_any h1 x hx (by have : 1000 ≤ 2 ^ 32 := by decide
                                 omega) hl ht q.below (fun k hk => (h3 k hk).1)).mono ?_
  rintro e w' ⟨rfl, S', hT, hM⟩
  exact ⟨rfl, AQ.stepT q.b1 q.b2 q.below h2 h3 h4 hT hM⟩
theorem AQ.appU {w0 w : World} {gt gu : Nat} {Lt Lu : List Hs} {g1 : Nat} {R1 : Hs} {g2 : Nat} {R2 : Hs} (q : AQ w0 w gt gu Lt Lu g1 R1 g2 R2) {x : Hs} (hx : Hok x) (hl : Lu.length < 1000) (ht : Tab w0 1) :
    Calls Tryd.prog 16 #[.pointer (some ⟨gu, 0, none⟩), .agg (rowV 32 x).toArray] w fun e w' => e = .returned (.tuple #[.int .u64 Lu.length, .int .i64 0]) ∧ AQ w0 w' gt gu Lt (Lu ++ [x]) g1 R1 g2 R2 := by
  obtain ⟨St, Su, h1, h2, h3, h4⟩ := q.trees
  refine (append_any h2 x hx (by have : 1000 ≤ 2 ^ 32 := by decide
                                 omega) hl ht q.below (fun k hk => (h4 k hk).1)).mono ?_
  rintro e w' ⟨rfl, S', hT, hM⟩
  have k := AQ.stepT (gt := gu) (gu := gt) q.b1 q.b2 q.below h1 (fun k hk => ⟨(h4 k hk).1, (h4 k hk).2.1, (h4 k hk).2.2, fun e => (h3 k e).2.2.2 hk⟩) (fun k hk => ⟨(h3 k hk).1, (h3 k hk).2.1, (h3 k hk).2.2.1⟩) hT hM
  obtain ⟨Su2, St2, k1, k2, k3, k4⟩ := k.trees
  exact ⟨rfl, ⟨⟨St2, Su2, k2, k1, fun j hj => ⟨(k4 j hj).1, (k4 j hj).2.1, (k4 j hj).2.2, fun e => (k3 j e).2.2.2 hj⟩, fun j hj => ⟨(k3 j hj).1, (k3 j hj).2.1, (k3 j hj).2.2.1⟩⟩, k.b1, k.b2, k.below⟩⟩
theorem AQ.cutT {w0 w : World} {gt gu : Nat} {Lt Lu : List Hs} {g1 : Nat} {R1 : Hs} {g2 : Nat} {R2 : Hs} (q : AQ w0 w gt gu Lt Lu g1 R1 g2 R2) (n : Nat) (hn : n ≤ Lt.length) :
    Calls Tryd.prog 17 #[.pointer (some ⟨gt, 0, none⟩), .int .u64 n] w fun e w' => e = .returned (.bool true) ∧ AQ w0 w' gt gu (Lt.take n) Lu g1 R1 g2 R2 := by
  obtain ⟨St, Su, h1, h2, h3, h4⟩ := q.trees
  refine (cut_any h1 n hn).mono ?_
  rintro e w' ⟨rfl, S', hT, hM⟩
  exact ⟨rfl, AQ.stepT q.b1 q.b2 q.below h2 h3 h4 hT hM⟩
/-- What stands while all is held against each other. -/
structure AY (w0 : World) (gt gu gw : Nat) (St Su : Nat → Prop) (L : List Hs) (R : Hs) (w : World) : Prop where
  t : Tr w gt St 32 L
  u : Tr w gu Su 32 L
  box : BRow w gw 32 R
  below : Below w0.heap.size w0 w
theorem AY.after {w0 w w' : World} {gt gu gw : Nat} {St Su : Nat → Prop} {L : List Hs} {R : Hs} (x : AY w0 gt gu gw St Su L R w) (hb : Below w.heap.size w w') : AY w0 gt gu gw St Su L R w' :=
  ⟨x.t.below hb, x.u.below hb, x.box.after hb rfl, bOn x.below hb⟩
theorem Hl.cutAt {w : World} {ao : Option Addr} {L : List Hs} (h : Hl w ao L) (m cap : Nat) (hm : m ≤ L.length) (hc : L.length ≤ cap) : Hl w (if cap = m then ao else Option.map (fun x => x.add (m * 32)) ao) (L.drop m) := by
  by_cases e : cap = m
  · have hd : L.drop m = [] := List.drop_of_length_le (by omega)
    rw [hd]; exact .inl rfl
  · rw [if_neg e]
    rcases h with rfl | ⟨b, off, rfl, hl, hc'⟩
    · exact .inl (by simp)
    · rw [Option.map_some, Addr.add_mid]
      exact Hl.drop (.inr ⟨b, off, rfl, hl, hc'⟩) m
theorem take_next {L : List Hs} {k : Nat} {x : Hs} (h : L[k]? = some x) : L.take (k + 1) = L.take k ++ [x] := by
  rw [List.take_add_one, h]; rfl
set_option maxRecDepth 100000 in
set_option maxHeartbeats 8000000 in
theorem treeAgain_walk (ao : Option Addr) (cap : Nat) (L : List Hs) (a : Int) (bo : Option Addr) (dcap : Nat) (M : List Hs) (w : World) (hl : L.length ≤ cap ∧ cap ≤ maxLen ∧ (ao = none → cap = 0) ∧ Hl w ao L ∧ Hoks L) (ha : (Lit.int .u64 a).wf = true)
    (hm : M.length ≤ dcap ∧ dcap ≤ maxLen ∧ (bo = none → dcap = 0) ∧ Hl w bo M ∧ Hoks M) (ht : Tab w 1) :
    Calls Tryd.prog 5 #[.slice ao L.length cap, .int .u64 a, .slice bo M.length dcap] w fun e w' => e = .returned (.bool true) ∧ Below w.heap.size w w' := by
  obtain ⟨l1, l2, l3, l4, l5⟩ := hl
  obtain ⟨m1, m2, m3, m4, m5⟩ := hm
  have HT := hide ht; have HL := hide l4; have HM := hide m4; have HLO := hide l5; have HMO := hide m5; have HCN := hide l3
  unfold maxLen at l2 m2
  have hli : (L.length : Int) ≤ 9223372036854775807 := by omega
  have hmi : (M.length : Int) ≤ 9223372036854775807 := by omega
  have hav := Go.bounds_u64 ha
  obtain ⟨av0, av1⟩ := hav
  clear ht l4 m4 l5 m5 l3 m3 ha
  by_cases hbig : L.length ≤ 30 ∧ M.length ≤ 30
  · obtain ⟨hb1, hb2⟩ := hbig
    have hb1i : (L.length : Int) ≤ 30 := by omega
    have hb2i : (M.length : Int) ≤ 30 := by omega
    have HLN := hide hb1; have HMN := hide hb2
    go_enter Tryd.func5, Tryd.ntmps5
    go_wp2_with fail
    refine (lives10_any HT.out).mono ?_
    rintro e w2 ⟨rfl, hb⟩
    have B := hide hb
    clear hb
    go_wp2_with fail
    refine (tnew_any 32 (by omega)).mono ?_
    rintro e w3 ⟨rfl, hbox, hb⟩
    have T3 := hide (Tr.new (by omega) hbox)
    have HB3 := hide hb
    clear hbox hb
    go_wp2_with fail
    refine (tnew_any 32 (by omega)).mono ?_
    rintro e w4 ⟨rfl, hbox, hb⟩
    have Q : Hid (AG w w4 w2.heap.size w3.heap.size [] []) := by
      refine ⟨⟨_, _, T3.out.below hb, Tr.new (by omega) hbox, fun k hk => ?_, fun k hk => ?_⟩, bOn (bOn B.out HB3.out) hb⟩
      · rw [hk]; exact ⟨B.out.size, Nat.ne_of_lt T3.out.box.lt⟩
      · rw [hk]; exact Nat.le_trans B.out.size HB3.out.size
    clear hbox hb T3 HB3 B
    generalize w2.heap.size = gt at *
    generalize w3.heap.size = gu at *
    go_wp2
    go_loopg [33] L.length (fun gk t wr => ∃ k : Nat, gk + k = L.length ∧ t = .int .i64 k ∧ AG w wr gt gu (L.take k) (L.take k))
    case atStart => exact ⟨0, by omega, rfl, Q.out⟩
    case round =>
      obtain ⟨k, hk, rfl, hq⟩ := hrel
      clear Q
      have Q := hide hq; have HK := hide hk
      clear hq hk
      by_cases hlt : k < L.length
      · have hki : (k : Int) < (L.length : Int) := by omega
        obtain ⟨x, hx⟩ : ∃ x, L[k]? = some x := ⟨L[k], by simp [hlt]⟩
        obtain ⟨b, off, rfl, _, hra⟩ := (HL.out.below Q.out.below).get hx
        have HRA := hide hra
        have HOX : Hid (Hok x) := HLO.out x (List.mem_of_getElem? hx)
        have HTK := hide (take_next hx)
        have HLT : Hid ((L.take k).length < 1000) := by show _ < _; rw [List.length_take]; omega
        have RN := hide (BRow.zeros32 wr (g := wr.heap.size) rfl)
        clear hra hx
        go_wp2_with (first
          | refine wpList_load_mid rfl 32 _ rfl b (off + k * 32) rfl (rowV 32 x) _ HRA.out Tryd.underlying32 rfl (info_hash32 _) ?_
          | refine wpList_store_stop rfl 32 _ _ rfl wr.heap.size 0 (rowV 32 x) rfl rfl (RN.out.thereA x) (info_hash32A x) (rowV_oneA _ _) ?_)
        intro w5 hw5
        have Q5 : Hid (AQ w w5 gt gu (L.take k) (L.take k) wr.heap.size x wr.heap.size x) := by
          show AQ _ _ _ _ _ _ _ _ _ _
          rw [hw5.out]; exact Q.out.new x
        clear hw5 RN
        generalize wr.heap.size = gx at *
        go_wp2_with (refine wpList_load_mid rfl 32 _ rfl gx 0 rfl (rowV 32 x) _ Q5.out.b1.range Tryd.underlying32 rfl (info_hash32 _) ?_)
        refine (Q5.out.appT HOX.out HLT.out HT.out).mono ?_
        rintro e w6 ⟨rfl, hq⟩
        have Q6 := hide hq
        clear hq Q5
        go_wp2_with (refine wpList_load_mid rfl 32 _ rfl gx 0 rfl (rowV 32 x) _ Q6.out.b1.range Tryd.underlying32 rfl (info_hash32 _) ?_)
        refine (Q6.out.appU HOX.out HLT.out HT.out).mono ?_
        rintro e w7 ⟨rfl, hq⟩
        have Q7 := hide hq.two
        clear hq Q6
        go_wp2
        go_roundg (L.length - k - 1)
        case measure => have := HK.out; omega
        case rel => exact ⟨k + 1, by omega, by go_num, by rw [HTK.out]; exact Q7.out⟩
      · obtain rfl : k = L.length := by have := HK.out; omega
        rw [List.take_length] at Q
        obtain ⟨m, hmm⟩ : ∃ m : Nat, a % ((L.length : Int) + 1) = (m : Int) := ⟨(a % ((L.length : Int) + 1)).toNat, by
          have := Int.emod_nonneg a (b := (L.length : Int) + 1) (by omega); omega⟩
        have hmlt : m ≤ L.length := by have := Int.emod_lt_of_pos a (b := (L.length : Int) + 1) (by omega); omega
        obtain ⟨St, Su, q1, q2, q3, q4⟩ := Q.out.trees
        obtain ⟨R, hR⟩ : ∃ R, tn L 32 0 = R := ⟨_, rfl⟩
        have HRT := hide hR
        have HQ1 := hide q1
        have HML := hide hmlt
        clear hR q1 q2 q3 q4
        go_wp2_with fail
        rw [hmm]
        refine (root_any HQ1.out (HT.out.below Q.out.below)).mono ?_
        rintro e w5 ⟨rfl, hb⟩
        rw [HRT.out]
        have Q5 := hide (Q.out.after hb)
        clear hb Q HQ1
        have R5 := hide (BRow.zeros32 w5 (g := w5.heap.size) rfl)
        go_wp2_with (refine wpList_store_stop rfl 32 _ _ rfl w5.heap.size 0 (rowV 32 R) rfl rfl (R5.out.thereA R) (info_hash32A R) (rowV_oneA _ _) ?_)
        intro w6 hw6
        have Q6 : Hid (AQ w w6 gt gu L L w5.heap.size R w5.heap.size R) := by
          show AQ _ _ _ _ _ _ _ _ _ _
          rw [hw6.out]; exact Q5.out.new R
        clear hw6 R5 Q5
        generalize w5.heap.size = gw at *
        go_wp2
        go_loopg [54] M.length (fun gk t wr => ∃ k : Nat, gk + k = M.length ∧ t = .int .i64 k ∧ AQ w wr gt gu (L ++ M.take k) L gw R gw R)
        case atStart => exact ⟨0, by omega, rfl, by simpa using Q6.out⟩
        case round =>
          obtain ⟨k, hk, rfl, hq⟩ := hrel
          clear Q6
          have Q := hide hq; have HK := hide hk
          clear hq hk
          by_cases hlt : k < M.length
          · have hki : (k : Int) < (M.length : Int) := by omega
            obtain ⟨x, hx⟩ : ∃ x, M[k]? = some x := ⟨M[k], by simp [hlt]⟩
            obtain ⟨b, off, rfl, _, hra⟩ := (HM.out.below Q.out.below).get hx
            have HRA := hide hra
            have HOX : Hid (Hok x) := HMO.out x (List.mem_of_getElem? hx)
            have HTK : Hid (L ++ M.take (k + 1) = (L ++ M.take k) ++ [x]) := by show _ = _; rw [take_next hx, List.append_assoc]
            have HLT : Hid ((L ++ M.take k).length < 1000) := by show _ < _; rw [List.length_append, List.length_take]; omega
            have RN := hide (BRow.zeros32 wr (g := wr.heap.size) rfl)
            clear hra hx
            go_wp2_with (first
              | refine wpList_load_mid rfl 32 _ rfl b (off + k * 32) rfl (rowV 32 x) _ HRA.out Tryd.underlying32 rfl (info_hash32 _) ?_
              | refine wpList_store_stop rfl 32 _ _ rfl wr.heap.size 0 (rowV 32 x) rfl rfl (RN.out.thereA x) (info_hash32A x) (rowV_oneA _ _) ?_)
            intro w7 hw7
            have Q7 : Hid (AQ w w7 gt gu (L ++ M.take k) L gw R wr.heap.size x) := by
              show AQ _ _ _ _ _ _ _ _ _ _
              rw [hw7.out]; exact Q.out.new x
            clear hw7 RN Q
            generalize wr.heap.size = gx at *
            obtain ⟨LM, hLM⟩ : ∃ LM, L ++ M.take k = LM := ⟨_, rfl⟩
            rw [hLM] at Q7 HTK HLT
            clear hLM
            go_wp2_with (refine wpList_load_mid rfl 32 _ rfl gx 0 rfl (rowV 32 x) _ Q7.out.b2.range Tryd.underlying32 rfl (info_hash32 _) ?_)
            refine (Q7.out.appT HOX.out HLT.out HT.out).mono ?_
            rintro e w8 ⟨rfl, hq⟩
            have Q8 := hide hq.again
            clear hq Q7
            go_wp2
            go_roundg (M.length - k - 1)
            case measure => have := HK.out; omega
            case rel => exact ⟨k + 1, by omega, by go_num, by rw [HTK.out]; exact Q8.out⟩
          · obtain rfl : k = M.length := by have := HK.out; omega
            rw [List.take_length] at Q
            have hcut := Q.out.cutT m (by rw [List.length_append]; have := HML.out; omega)
            rw [List.take_append_of_le_length HML.out] at hcut
            have HCUT := hide hcut
            clear hcut
            have hmL : (m : Int) ≤ (L.length : Int) := by have := HML.out; omega
            have hmcap : (m : Int) ≤ (cap : Int) := by omega
            have hmcn : m ≤ cap := by have := HML.out; omega
            have hmln : m ≤ L.length := HML.out
            obtain ⟨ao2, hao⟩ : ∃ ao2, (if cap = m then ao else Option.map (fun x => x.add (m * 32)) ao) = ao2 := ⟨_, rfl⟩
            have HL2 : Hid (Hl w ao2 (L.drop m)) := by rw [← hao]; exact HL.out.cutAt m cap HML.out l1
            obtain ⟨p, hp⟩ : ∃ p, L.length - m = p := ⟨_, rfl⟩
            have hpi : (p : Int) ≤ 30 := by omega
            have HP : Hid ((L.drop m).length = p) := by show _ = _; rw [List.length_drop]; exact hp
            go_wp2_with fail
            refine HCUT.out.mono ?_
            rintro e w8 ⟨rfl, hq⟩
            have Q8 := hide hq
            clear hq Q HCUT
            go_wp2
            go_loopg [70] p (fun gk t wr => ∃ k : Nat, gk + k = p ∧ t = .int .i64 k ∧ AQ w wr gt gu (L.take m ++ (L.drop m).take k) L gw R gw R)
            case atStart => exact ⟨0, by omega, rfl, by simpa using Q8.out⟩
            case round =>
              obtain ⟨k, hk, rfl, hq⟩ := hrel
              clear Q8
              have Q := hide hq; have HK := hide hk
              clear hq hk
              by_cases hlt : k < p
              · have hki : (k : Int) < (p : Int) := by omega
                obtain ⟨x, hx⟩ : ∃ x, (L.drop m)[k]? = some x := ⟨(L.drop m)[k]'(by rw [HP.out]; exact hlt), by rw [List.getElem?_eq_getElem]⟩
                obtain ⟨b, off, hab, _, hra⟩ := (HL2.out.below Q.out.below).get hx
                have HRA := hide hra
                have HOX : Hid (Hok x) := HLO.out x (List.mem_of_mem_drop (List.mem_of_getElem? hx))
                have HTK : Hid (L.take m ++ (L.drop m).take (k + 1) = (L.take m ++ (L.drop m).take k) ++ [x]) := by show _ = _; rw [take_next hx, List.append_assoc]
                have HLT : Hid ((L.take m ++ (L.drop m).take k).length < 1000) := by show _ < _; rw [List.length_append, List.length_take, List.length_take]; omega
                have RN := hide (BRow.zeros32 wr (g := wr.heap.size) rfl)
                clear hra hx hao
                subst hab
                go_wp2_with (first
                  | refine wpList_load_mid rfl 32 _ rfl b (off + k * 32) rfl (rowV 32 x) _ HRA.out Tryd.underlying32 rfl (info_hash32 _) ?_
                  | refine wpList_store_stop rfl 32 _ _ rfl wr.heap.size 0 (rowV 32 x) rfl rfl (RN.out.thereA x) (info_hash32A x) (rowV_oneA _ _) ?_)
                intro w7 hw7
                have Q7 : Hid (AQ w w7 gt gu (L.take m ++ (L.drop m).take k) L gw R wr.heap.size x) := by
                  show AQ _ _ _ _ _ _ _ _ _ _
                  rw [hw7.out]; exact Q.out.new x
                clear hw7 RN Q
                generalize wr.heap.size = gx at *
                obtain ⟨LM, hLM⟩ : ∃ LM, L.take m ++ (L.drop m).take k = LM := ⟨_, rfl⟩
                rw [hLM] at Q7 HTK HLT
                clear hLM
                go_wp2_with (refine wpList_load_mid rfl 32 _ rfl gx 0 rfl (rowV 32 x) _ Q7.out.b2.range Tryd.underlying32 rfl (info_hash32 _) ?_)
                refine (Q7.out.appT HOX.out HLT.out HT.out).mono ?_
                rintro e w9 ⟨rfl, hq⟩
                have Q9 := hide hq.again
                clear hq Q7
                go_wp2
                go_roundg (p - k - 1)
                case measure => have := HK.out; omega
                case rel => exact ⟨k + 1, by omega, by go_num, by rw [HTK.out]; exact Q9.out⟩
              · obtain rfl : k = p := by have := HK.out; omega
                have hall : L.take m ++ (L.drop m).take k = L := by rw [List.take_of_length_le (l := L.drop m) (by rw [HP.out]; exact Nat.le_refl _), List.take_append_drop]
                rw [hall] at Q
                obtain ⟨St, Su, q1, q2, q3, q4⟩ := Q.out.trees
                have X0 : Hid (AY w gt gu gw St Su L R wr) := ⟨q1, q2, Q.out.b1, Q.out.below⟩
                clear hall q1 q2 q3 q4 Q
                have hwl : IntKind.u64.wrap (L.length : Int) = (L.length : Int) := by rw [IntKind.wrap_u64]; omega
                go_wp2_with fail
                have X : Hid (AY w gt gu gw St Su L R wr.drew) := X0.out.after (bMe wr).drew
                refine wp_region_held_drew (S := AY w gt gu gw St Su L R) (by kernel_rfl) X.out (fun _ => ?_)
                refine tk0 (v := .pointer (some ⟨gt, 0, none⟩)) (by kernel_rfl) (by kernel_rfl) (by kernel_rfl) (fun _ _ _ h => h) X.out (Or.inl ⟨by rfl, fun w hw => by go_simp; try (with_reducible rfl)⟩) ?_
                simp only [Act.put, List.setIfInBounds_toArray, List.set_cons_zero, List.set_cons_succ]
                refine tk2 (by kernel_rfl) (by kernel_rfl) (by kernel_rfl) (fun _ _ _ h => h) X.out (yieldsIf_load_mid (by rfl) _ _ rfl gw (0) rfl (rowV 32 R) _ (fun _ hw => hw.box.range) Tryd.underlying32 rfl (info_hash32 _)) ?_
                simp only [Act.put, List.setIfInBounds_toArray, List.set_cons_zero, List.set_cons_succ]
                refine wpAnyH_ready (rs := [1]) (by kernel_rfl) (by simp) ?_
                refine rd1 (fun K hK => ?_) AllReadyH.nil
                go_simp
                refine (root_any X.out.t (HT.out.below X.out.below)).mono ?_
                rintro e1 w1 ⟨rfl, hb⟩
                simp only []
                replace X := hide (X.out.after hb)
                clear hb
                refine hK.out _ _ X.out (fun _ => ?_)
                clear hK K
                rw [HRT.out]
                refine tk3 (v := .bool true) (by kernel_rfl) (by kernel_rfl) (by kernel_rfl) (fun _ _ _ h => h) X.out (Or.inl ⟨by rfl, fun w hw => by go_simp; try (with_reducible rfl)⟩) ?_
                simp only [Act.put, List.setIfInBounds_toArray, List.set_cons_zero, List.set_cons_succ]
                refine tk4 (v := .bool true) (by kernel_rfl) (by kernel_rfl) (by kernel_rfl) (fun _ _ _ h => h) X.out (Or.inl ⟨by rfl, fun w hw => by go_simp; try (with_reducible rfl)⟩) ?_
                simp only [Act.put, List.setIfInBounds_toArray, List.set_cons_zero, List.set_cons_succ]
                refine tk5 (v := .pointer (some ⟨gu, 0, none⟩)) (by kernel_rfl) (by kernel_rfl) (by kernel_rfl) (fun _ _ _ h => h) X.out (Or.inl ⟨by rfl, fun w hw => by go_simp; try (with_reducible rfl)⟩) ?_
                simp only [Act.put, List.setIfInBounds_toArray, List.set_cons_zero, List.set_cons_succ]
                refine tk7 (by kernel_rfl) (by kernel_rfl) (by kernel_rfl) (fun _ _ _ h => h) X.out (yieldsIf_load_mid (by rfl) _ _ rfl gw (0) rfl (rowV 32 R) _ (fun _ hw => hw.box.range) Tryd.underlying32 rfl (info_hash32 _)) ?_
                simp only [Act.put, List.setIfInBounds_toArray, List.set_cons_zero, List.set_cons_succ]
                refine wpAnyH_ready (rs := [6]) (by kernel_rfl) (by simp) ?_
                refine rd6 (fun K hK => ?_) AllReadyH.nil
                go_simp
                refine (root_any X.out.u (HT.out.below X.out.below)).mono ?_
                rintro e6 w6 ⟨rfl, hb⟩
                simp only []
                replace X := hide (X.out.after hb)
                clear hb
                refine hK.out _ _ X.out (fun _ => ?_)
                clear hK K
                rw [HRT.out]
                refine tk8 (v := .bool true) (by kernel_rfl) (by kernel_rfl) (by kernel_rfl) (fun _ _ _ h => h) X.out (Or.inl ⟨by rfl, fun w hw => by go_simp; try (with_reducible rfl)⟩) ?_
                simp only [Act.put, List.setIfInBounds_toArray, List.set_cons_zero, List.set_cons_succ]
                refine tk9 (v := .bool true) (by kernel_rfl) (by kernel_rfl) (by kernel_rfl) (fun _ _ _ h => h) X.out (Or.inl ⟨by rfl, fun w hw => by go_simp; try (with_reducible rfl)⟩) ?_
                simp only [Act.put, List.setIfInBounds_toArray, List.set_cons_zero, List.set_cons_succ]
                refine tk10 (v := .bool true) (by kernel_rfl) (by kernel_rfl) (by kernel_rfl) (fun _ _ _ h => h) X.out (Or.inl ⟨by rfl, fun w hw => by go_simp; try (with_reducible rfl)⟩) ?_
                simp only [Act.put, List.setIfInBounds_toArray, List.set_cons_zero, List.set_cons_succ]
                refine tk11 (v := .pointer (some ⟨gt, 0, none⟩)) (by kernel_rfl) (by kernel_rfl) (by kernel_rfl) (fun _ _ _ h => h) X.out (Or.inl ⟨by rfl, fun w hw => by go_simp; try (with_reducible rfl)⟩) ?_
                simp only [Act.put, List.setIfInBounds_toArray, List.set_cons_zero, List.set_cons_succ]
                refine tk13 (v := .slice ao L.length cap) (by kernel_rfl) (by kernel_rfl) (by kernel_rfl) (fun _ _ _ h => h) X.out (Or.inl ⟨by rfl, fun w hw => by go_simp; try (with_reducible rfl)⟩) ?_
                simp only [Act.put, List.setIfInBounds_toArray, List.set_cons_zero, List.set_cons_succ]
                refine tk14 (v := .int .i64 (L.length : Int)) (by kernel_rfl) (by kernel_rfl) (by kernel_rfl) (fun _ _ _ h => h) X.out (Or.inl ⟨by rfl, fun w hw => by go_simp; try (with_reducible rfl)⟩) ?_
                simp only [Act.put, List.setIfInBounds_toArray, List.set_cons_zero, List.set_cons_succ]
                refine tk15 (v := .int .u64 (L.length : Int)) (by kernel_rfl) (by kernel_rfl) (by kernel_rfl) (fun _ _ _ h => h) X.out (Or.inl ⟨by rfl, fun w hw => by go_simp; try (with_reducible rfl)⟩) ?_
                simp only [Act.put, List.setIfInBounds_toArray, List.set_cons_zero, List.set_cons_succ]
                refine wpAnyH_ready (rs := [12]) (by kernel_rfl) (by simp) ?_
                refine rd12 (fun K hK => ?_) AllReadyH.nil
                go_simp
                refine (len_any X.out.t.box (by rw [lv_zero]; have := HLN.out; omega)).mono ?_
                rintro e12 w12 ⟨rfl, hw12⟩
                have hv12 := hw12.symm
                clear hw12
                subst hv12
                simp only []
                refine hK.out _ _ X.out (fun _ => ?_)
                clear hK K
                rw [lv_zero]
                refine tk16 (v := .bool true) (by kernel_rfl) (by kernel_rfl) (by kernel_rfl) (fun _ _ _ h => h) X.out (Or.inl ⟨by rfl, fun w hw => by go_simp; try (with_reducible rfl)⟩) ?_
                simp only [Act.put, List.setIfInBounds_toArray, List.set_cons_zero, List.set_cons_succ]
                refine tk17 (v := .bool true) (by kernel_rfl) (by kernel_rfl) (by kernel_rfl) (fun _ _ _ h => h) X.out (Or.inl ⟨by rfl, fun w hw => by go_simp; try (with_reducible rfl)⟩) ?_
                simp only [Act.put, List.setIfInBounds_toArray, List.set_cons_zero, List.set_cons_succ]
                refine tk18 (v := .bool true) (by kernel_rfl) (by kernel_rfl) (by kernel_rfl) (fun _ _ _ h => h) X.out (Or.inl ⟨by rfl, fun w hw => by go_simp; try (with_reducible rfl)⟩) ?_
                simp only [Act.put, List.setIfInBounds_toArray, List.set_cons_zero, List.set_cons_succ]
                refine wpAnyH_done (by kernel_rfl) ?_ _
                go_wp2
                go_ret
                exact ⟨rfl, X.out.below⟩
  · have hn : (30 : Int) < (L.length : Int) ∨ ((L.length : Int) ≤ 30 ∧ (30 : Int) < (M.length : Int)) := by omega
    have hboth : Hid (∀ v, v = v) := fun (v : Nat) => rfl
    clear hbig hboth
    rcases hn with hn | ⟨hn0, hn⟩
    all_goals
      go_enter Tryd.func5, Tryd.ntmps5
      go_wp2_with fail
      refine (lives10_any HT.out).mono ?_
      rintro e w2 ⟨rfl, hb⟩
      have B := hide hb
      clear hb
      go_wp2_with fail
      refine (lives10_any (HT.out.below B.out)).mono ?_
      rintro e w3 ⟨rfl, hb⟩
      replace B := hide (bOn B.out hb)
      clear hb
      go_wp2
      go_ret
      exact ⟨rfl, B.out⟩
end Go.Proofs.YtlkmebimgpigjaaDoor
