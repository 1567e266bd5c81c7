/- The contract of digest's (*State).add over this translation. -/
import Derived.Test.YtjkhboejhcbdpaaDoorDigState
import Derived.Deep.RegionHeld3
import Derived.Deep.LoopGhost
import Derived.BigRegion
import Derived.BigQuiet
namespace Go.Proofs.YtjkhboejhcbdpaaDoor
open Go.RowKit Go.Lib
attribute [local go_sem] setCell_drewN alloc_drewN

theorem cut_arr (g hd : Nat) (h : hd < 64) (w : World) : (Instr.sliceAt 93 (.pointer (some ⟨g, 8, none⟩)) (some (.int .i64 hd)) none none).run Tryd.prog w = .ok (.slice (some ⟨g, 8 + hd, none⟩) (64 - hd) (64 - hd)) w := by
  have hs : (sizeOf (Tryd.prog.elem 93)).run Tryd.prog w = .ok 1 w := by kernel_rfl
  have hn : Tryd.prog.arrayLen 93 = 64 := by kernel_rfl
  rw [run_sliceAt_array_l w 93 _ (by kernel_rfl) .i64 hd (by omega) (by rw [hn]; omega), hs]
  simp [Result.andThen, hn, slicedAt, Addr.add_mid, show ¬ 64 = hd by omega]
theorem cut_rest (ao : Option Addr) (L cap n : Nat) (hn : n ≤ L) (w : World) : (Instr.sliceAt 67 (.slice ao L cap) (some (.int .i64 n)) none none).run Tryd.prog w = .ok (.slice (if cap = n then ao else ao.map (·.add n)) (L - n) (cap - n)) w := by
  have hs : (sizeOf (Tryd.prog.elem 67)).run Tryd.prog w = .ok 1 w := by kernel_rfl
  rw [run_sliceAt_slice w _ _ _ _ _ (by kernel_rfl), run_slice_l w _ ao L cap (by kernel_rfl) .i64 n (by omega) (by omega), hs]
  simp [Result.andThen, sliced]
/-- Bytes are copied into a block that may be written. -/
theorem wpList_copyB {ops : Array Oper} {rest : List Oper} {o : Oper} {a : Act} {w : World} {Q : Exit → Act → World → Prop} (hgd : o.guard = none) (d s : Operand)
    (ho : o.op = .call { callee := .builtin .copy, args := #[d, s], argTypes := #[67, 67] }) (g off dLen dCap : Nat) (ao : Option Addr) (n c : Nat) (p : List Int) (k : Nat)
    (hd : a.eval d = .slice (some ⟨g, off, none⟩) dLen dCap) (hs : a.eval s = .slice ao n c) (hn : n = p.length) (ha : At w ao p) (hp : 0 < p.length) (hk : k = Nat.min p.length dLen) (ht : w.there g off k)
    (h : ∀ w', Hid (w' = w.setCells g off (bv (p.take k))) → wpList Tryd.prog ops Q rest (a.put o.dst (.int .i64 k)) w') : wpList Tryd.prog ops Q (o :: rest) a w := by
  subst hn
  rcases ha with rfl | ⟨b, so, rfl, hb, hc⟩
  · simp at hp
  have hkl : k ≤ p.length := by rw [hk]; exact Nat.min_le_left _ _
  have hl : (bv (p.take k)).length = k := by rw [bv_length, List.length_take]; omega
  have hrun := run_copy_cells (P := Tryd.prog) w 67 67 o.type 5 g off dLen dCap ⟨b, so, none⟩ p.length c (bv (p.take k)) Tryd.underlying67 (by kernel_rfl) (by rw [hl, hk])
    (fun j v hv => by
      have hj : j < k := by have := (List.getElem?_eq_some_iff.1 hv).1; rwa [hl] at this
      rw [bv_get (by rw [List.length_take]; omega)] at hv
      rw [Addr.add_mid, hc j (by omega), ← hv]
      simp [hj])
    (fun j hj => (ht j (by rwa [hl] at hj)).1) (fun j hj => (ht j (by rwa [hl] at hj)).2) (bv_one _)
  rw [hl] at hrun
  refine wpList_plain hgd fun _ hK => ?_
  unfold Oper.wp
  simp [execOp, ho, resolve, invoke, builtin, hd, hs, hrun, Result.andThen]
  exact hK _ _ (h _ (hide rfl))
/-- Bytes that don't lie in block g. -/
def Off (ao : Option Addr) (l : List Int) (g : Nat) : Prop := l = [] ∨ ∀ a, ao = some a → a.block ≠ g
theorem At.off {w : World} {ao : Option Addr} {l : List Int} {g : Nat} (h : At w ao l) (hg : w.heap.size ≤ g) : Off ao l g := by
  rcases h with rfl | ⟨b, off, rfl, hl, _⟩
  · exact .inl rfl
  · exact .inr (fun a e => by cases e; show b ≠ g; omega)
theorem Off.rest {ao : Option Addr} {l : List Int} {g : Nat} (h : Off ao l g) (n : Nat) (c : Prop) [Decidable c] : Off (if c then ao else ao.map (·.add n)) (l.drop n) g := by
  rcases h with rfl | h
  · exact .inl (by simp)
  refine .inr (fun a ha => ?_)
  split at ha
  · exact h a ha
  · cases ao with
    | none => simp at ha
    | some b => simp at ha; subst ha; have := h b rfl; unfold Addr.add; split <;> simpa using this
theorem At.bar {w w' : World} {ao : Option Addr} {l : List Int} {g : Nat} (h : At w ao l) (hb : Bar g w w') (ho : Off ao l g) : At w' ao l := by
  rcases ho with rfl | ho
  · exact At.nil _ _
  · exact h.of hb.size (fun a e hl => hb.block _ hl (ho a e))
theorem At.rest {w : World} {ao : Option Addr} {l : List Int} (h : At w ao l) (n cap : Nat) (hn : n ≤ l.length) (hc : l.length ≤ cap) : At w (if cap = n then ao else ao.map (·.add n)) (l.drop n) := by
  by_cases e : cap = n
  · rw [if_pos e]
    have : l.drop n = [] := List.drop_eq_nil_of_le (by omega)
    rw [this]; exact At.nil _ _
  · rw [if_neg e]
    rcases h with rfl | ⟨b, off, rfl, hl, hc⟩
    · simp; exact At.nil _ _
    · have := At.drop (.inr ⟨b, off, rfl, hl, hc⟩ : At w (some ⟨b, off, none⟩) l) n
      simpa [Addr.add_mid] using this
theorem Tab.bar {w w' : World} {g g' : Nat} (h : Tab w g) (hb : Bar g' w w') (hne : g ≠ g') : Tab w' g :=
  ⟨Nat.lt_of_lt_of_le h.1 hb.size, fun j hj => (World.cell?_of_block (w := w) (a := ⟨g, j, none⟩) (hb.block g h.1 hne)).trans (h.2 j hj)⟩
theorem step_hid {s t : St8} {l : List Int} (h : step8 s l = t) : Hid (grow s (rounds8 s (words (bw (fun j => l.getD j 0)) 64) 64) = t) := by
  show _ = _
  rw [bw_list]
  unfold step8 at h
  exact h
theorem lay_full {L r : List Int} {bl : Nat → Int} {hd : Nat} (hr : ∀ j, j < L.length % 64 → bl j = L.getD (64 * (L.length / 64) + j) 0) (h1 : L.length % 64 + r.length = 64) (h3 : L.length % 64 = hd) (j : Nat) (hj : j < 64) : layB bl r hd j = (blk64 (L ++ r) (L.length / 64)).getD j 0 := by
  subst h3
  rw [blk64_get _ _ _ hj]
  exact rest_lay hr j (by omega)
theorem byt_sub {l p : List Int} (h : Byt (l ++ p)) (k : Nat) : Byt (l ++ p.take k) := by
  intro x hx
  rcases List.mem_append.1 hx with hx | hx
  · exact h x (List.mem_append_left _ hx)
  · exact h x (List.mem_append_right _ (List.mem_of_mem_take hx))
theorem take_more (p : List Int) (m n : Nat) (q : List Int) (h : p.drop m = q) : p.take (m + n) = p.take m ++ q.take n := by
  rw [← h, List.take_add]
theorem lay_bd {bl : Nat → Int} {q : List Int} (h : ∀ j, 0 ≤ bl j ∧ bl j < 256) (hq : Byt q) (o : Nat) : Hid (∀ j, 0 ≤ layB bl q o j ∧ layB bl q o j < 256) := by
  intro j
  unfold layB
  split
  · exact hq.get _
  · exact h j
theorem part_state {w : World} {g hd n : Nat} {L r : List Int} {bl : Nat → Int} (S : SB w g (s8 (eight L)) (layB bl r hd) (L.length + n)) (hr : ∀ j, j < L.length % 64 → bl j = L.getD (64 * (L.length / 64) + j) 0) (h1 : L.length % 64 + r.length < 64) (h2 : r.length = n) (h3 : L.length % 64 = hd) : SS w g (L ++ r) (layB bl r hd) := by
  subst h2 h3
  refine ⟨?_, fun j hj => ?_⟩
  · rw [eight_part L r h1, List.length_append]; exact S
  · rw [List.length_append] at hj ⊢
    rw [show (L.length + r.length) / 64 = L.length / 64 by omega]
    exact rest_lay hr j (by omega)
theorem full_state {w : World} {g n : Nat} {L r : List Int} {bl : Nat → Int} {t : St8} (S : SB w g (s8 t) bl (L.length + n)) (h1 : L.length % 64 + r.length = 64) (h2 : r.length = n) (ht : step8 (eight L) (blk64 (L ++ r) (L.length / 64)) = t) : SS w g (L ++ r) bl := by
  subst h2
  refine ⟨?_, fun j hj => ?_⟩
  · rw [eight_full L r h1, ht, List.length_append]; exact S
  · rw [List.length_append] at hj; omega
set_option maxRecDepth 100000 in
set_option maxHeartbeats 8000000 in
theorem add1_any {w : World} {g : Nat} {l : List Int} {bl : Nat → Int} (hs : SS w g l bl) (ao : Option Addr) (cap : Nat) (p : List Int) (hp : At w ao p) (ho : Off ao p g) (hc : p.length ≤ cap) (hcm : cap ≤ maxLen) (hby : Byt (l ++ p)) (hbl : ∀ j, 0 ≤ bl j ∧ bl j < 256) (hlen : l.length + p.length ≤ 1000000) (ht : Tab w 1) (hg : 1 ≠ g) :
    Calls Tryd.prog 48 #[.pointer (some ⟨g, 0, none⟩), .slice ao p.length cap] w fun e w' => e = .returned (.tuple #[]) ∧ (∃ bl', SS w' g (l ++ p) bl' ∧ ∀ j, 0 ≤ bl' j ∧ bl' j < 256) ∧ Bar g w w' := by
  unfold maxLen at hcm
  have HS := hide hs; have HP := hide hp; have HO := hide ho; have HBY := hide hby; have HBL := hide hbl; have HT := hide ht; have HG := hide hg
  clear hs hp ho hby hbl ht hg
  go_enter Tryd.func48, Tryd.ntmps48
  go_wp2
  go_loopg [1] p.length (fun gk t1 wr => ∃ (m : Nat) (ao' : Option Addr) (cap' : Nat) (q : List Int) (bl' : Nat → Int), gk + m = p.length ∧ t1 = .slice ao' q.length cap' ∧ Hid (p.drop m = q) ∧ At wr ao' q ∧ Off ao' q g ∧ q.length ≤ cap' ∧ cap' ≤ 9223372036854775807 ∧ SS wr g (l ++ p.take m) bl' ∧ Hid (∀ j, 0 ≤ bl' j ∧ bl' j < 256) ∧ Bar g w wr)
  case atStart => exact ⟨0, ao, cap, p, bl, by omega, rfl, by show _ = _; simp, HP.out, HO.out, hc, by omega, by simpa using HS.out, HBL, Bar.refl _ _⟩
  case round =>
    clear HS HP HO HBL
    obtain ⟨m, ao', cap', q, bl', hk, rfl, HQ, hp, ho, hc', hcm', hs, HBL, hb⟩ := hrel
    have HS := hide hs; have HP := hide hp; have HO := hide ho; have HK := hide hk; have B := hide hb
    have hql : q.length = p.length - m := by rw [← HQ.out]; simp
    clear hs hp ho hb hk
    by_cases hlt : 0 < q.length
    · obtain ⟨L, hL⟩ : ∃ L, l ++ p.take m = L := ⟨_, rfl⟩
      have hLl : L.length = l.length + m := by have := HK.out; rw [← hL]; simp; omega
      rw [hL] at HS
      have HL := hide hL
      have hL6 : L.length ≤ 1000000 := by omega
      obtain ⟨hd, hhd⟩ : ∃ hd, L.length % 64 = hd := ⟨_, rfl⟩
      have hh : (L.length : Int) % 64 = (hd : Int) := by omega
      have hd64 : hd < 64 := by omega
      have hd64i : (hd : Int) < 64 := by omega
      obtain ⟨n, hn⟩ : ∃ n, n = Nat.min q.length (64 - hd) := ⟨_, rfl⟩
      have hn1 : n ≤ q.length := by rw [hn]; exact Nat.min_le_left _ _
      have hn2 : n ≤ 64 - hd := by rw [hn]; exact Nat.min_le_right _ _
      have hn3 : 0 < n := by rw [hn]; exact Nat.lt_min.2 ⟨hlt, by omega⟩
      have hn4 : n = q.length ∨ n = 64 - hd := by have := hn; simp only [Nat.min_def] at this; split at this <;> omega
      have HH := hide hhd; have HN := hide hn; have HLL := hide hLl; have HN4 := hide hn4
      have hql0 : (0 : Int) < (q.length : Int) := by omega
      have cn := HS.out.sb.cn
      have ca := cut_arr g hd hd64 wr
      have HQL := hide hql
      have hq6 : (q.length : Int) ≤ 1000000 := by omega
      have hL6i : (L.length : Int) ≤ 1000000 := by omega
      have hnq : (n : Int) ≤ 64 := by omega
      clear hhd hn hL hLl hn4 hql
      have hth := hide (HS.out.sb.thereB (o := hd) (m := n) (by omega))
      go_wp2_with (refine wpList_copyB rfl _ _ rfl g (8 + hd) (64 - hd) (64 - hd) ao' _ cap' q n rfl rfl rfl HP.out hlt HN.out hth.out ?_)
      intro w2 hw2
      have S2 : Hid (SB w2 g (s8 (eight L)) (layB bl' (q.take n) hd) L.length) := by
        show SB _ _ _ _ _
        rw [hw2.out]; exact HS.out.sb.lay (q.take n) hd (by simp; omega)
      have B2 : Hid (Bar g wr w2) := by
        show Bar _ _ _
        rw [hw2.out]; exact Bar.cells _ _ (Bar.refl _ _)
      clear hw2 cn ca
      have cn := S2.out.cn
      have fn := S2.out.fr 72
      obtain ⟨ao2, hao2⟩ : ∃ ao2, (if cap' = n then ao' else ao'.map (·.add n)) = ao2 := ⟨_, rfl⟩
      have ct := fun w => cut_rest ao' q.length cap' n hn1 w
      have A2 := hide (HP.out.rest n cap' hn1 hc')
      have O2 := hide (HO.out.rest n (cap' = n))
      simp only [hao2] at ct A2 O2
      clear hao2
      by_cases hfull : hd + n = 64
      · have hfi : ((hd : Int) + (n : Int) == 64) = true := by simp; omega
        go_wp2
        have S3 : Hid (SB (w2.setCell ⟨g, 72, none⟩ (.int .u64 ((L.length : Int) + (n : Int)))) g (s8 (eight L)) (layB bl' (q.take n) hd) (L.length + n)) := S2.out.count2 _ _ (by omega)
        replace B2 := hide (B2.out.set 72 (.int .u64 ((L.length : Int) + (n : Int))))
        generalize w2.setCell ⟨g, 72, none⟩ (.int .u64 ((L.length : Int) + (n : Int))) = w3 at *
        have hrl : (q.take n).length = n := by simp; omega
        have HRL := hide hrl
        have HB : Hid (Byt (L ++ q.take n)) := by
          show Byt _
          rw [← HL.out, List.append_assoc, ← take_more p m n q HQ.out]
          exact byt_sub HBY.out _
        obtain ⟨t, ht⟩ : ∃ t, step8 (eight L) (blk64 (L ++ q.take n) (L.length / 64)) = t := ⟨_, rfl⟩
        have HST := step_hid ht
        have HTT := hide ht
        obtain ⟨bl3, hbl3⟩ : ∃ bl3 : Nat → Int, (fun j => (blk64 (L ++ q.take n) (L.length / 64)).getD j 0) = bl3 := ⟨_, rfl⟩
        have HB3 : Hid (∀ j, 0 ≤ bl3 j ∧ bl3 j < 256) := fun j => by rw [← hbl3]; exact (blk64_byt HB.out _).get j
        have S4 : Hid (SB w3 g (s8 (eight L)) bl3 (L.length + n)) := S3.out.congr (fun _ _ => rfl) (fun j hj => by rw [← hbl3]; exact lay_full HS.out.rest (by rw [hrl, HH.out]; exact hfull) HH.out j hj)
        rw [hbl3] at HST
        have HEU := hide (eight_U L)
        have HTB := hide (HT.out.bar (B.out.trans B2.out) HG.out)
        obtain ⟨E, hE⟩ : ∃ E, eight L = E := ⟨_, rfl⟩
        rw [hE] at S4 HST HEU
        clear ht hbl3 hE S3 cn fn ct hrl
        have hu := Tryd.underlying93
        have hi := info_b64 bl3
        have SD := hide (S4.out.after (bMe w3).drew rfl)
        refine wp_region_any (by kernel_rfl) ?_
        change wpAny _ _ _ _ _ _ _ (World.drew _)
        refine wpAny_take (i := 0) (oi := { dst := some 38, op := .move (.tmp 0), type := 75, pos := "digest.go:63", after := #[], guard := none }) (v := .pointer (some ⟨g, 0, none⟩)) rfl (by kernel_rfl) (by kernel_rfl) (by kernel_rfl) (fun _ _ _ h => h) (Or.inl ⟨by rfl, fun w => by go_simp⟩) ?_
        simp only [Act.put, List.setIfInBounds_toArray, List.set_cons_zero, List.set_cons_succ]
        refine wpAny_take (i := 1) (oi := { dst := some 39, op := .move (.tmp 0), type := 75, pos := "digest.go:63", after := #[], guard := none }) (v := .pointer (some ⟨g, 0, none⟩)) rfl (by kernel_rfl) (by kernel_rfl) (by kernel_rfl) (fun _ _ _ h => h) (Or.inl ⟨by rfl, fun w => by go_simp⟩) ?_
        simp only [Act.put, List.setIfInBounds_toArray, List.set_cons_zero, List.set_cons_succ]
        refine wpAny_take (i := 2) (oi := { dst := some 40, op := .nilCheck (.tmp 39), type := 0, pos := "digest.go:63", after := #[{ on := 1, ground := .data }], guard := none }) (v := .pointer (some ⟨g, 0, none⟩)) rfl (by kernel_rfl) (by kernel_rfl) (by kernel_rfl) (fun _ _ _ h => h) (Or.inl ⟨by rfl, fun w => by go_simp⟩) ?_
        simp only [Act.put, List.setIfInBounds_toArray, List.set_cons_zero, List.set_cons_succ]
        refine wpAny_take (i := 3) (oi := { dst := some 41, op := .fieldAddr 95 (.tmp 40) 0, type := 0, pos := "digest.go:63", after := #[{ on := 2, ground := .data }], guard := none }) (v := .pointer (some ⟨g, 0, none⟩)) rfl (by kernel_rfl) (by kernel_rfl) (by kernel_rfl) (fun _ _ _ h => h) (Or.inl ⟨by rfl, fun w => by go_simp⟩) ?_
        simp only [Act.put, List.setIfInBounds_toArray, List.set_cons_zero, List.set_cons_succ]
        refine wpAny_take (i := 5) (oi := { dst := some 43, op := .move (.tmp 0), type := 75, pos := "digest.go:63", after := #[], guard := none }) (v := .pointer (some ⟨g, 0, none⟩)) rfl (by kernel_rfl) (by kernel_rfl) (by kernel_rfl) (fun _ _ _ h => h) (Or.inl ⟨by rfl, fun w => by go_simp⟩) ?_
        simp only [Act.put, List.setIfInBounds_toArray, List.set_cons_zero, List.set_cons_succ]
        refine wpAny_take (i := 6) (oi := { dst := some 44, op := .nilCheck (.tmp 43), type := 0, pos := "digest.go:63", after := #[{ on := 5, ground := .data }], guard := none }) (v := .pointer (some ⟨g, 0, none⟩)) rfl (by kernel_rfl) (by kernel_rfl) (by kernel_rfl) (fun _ _ _ h => h) (Or.inl ⟨by rfl, fun w => by go_simp⟩) ?_
        simp only [Act.put, List.setIfInBounds_toArray, List.set_cons_zero, List.set_cons_succ]
        refine wpAny_take (i := 7) (oi := { dst := some 45, op := .fieldAddr 95 (.tmp 44) 1, type := 0, pos := "digest.go:63", after := #[{ on := 6, ground := .data }], guard := none }) (v := .pointer (some ⟨g, 8, none⟩)) rfl (by kernel_rfl) (by kernel_rfl) (by kernel_rfl) (fun _ _ _ h => h) (Or.inl ⟨by rfl, fun w => by go_simp⟩) ?_
        simp only [Act.put, List.setIfInBounds_toArray, List.set_cons_zero, List.set_cons_succ]
        have hu8 := Tryd.underlying87
        refine wpAny_ready (rs := [4, 8]) (by kernel_rfl) (by simp) ?_
        refine AllReady.cons (o := { dst := some 42, op := .load 87 (.tmp 41), type := 87, pos := "digest.go:63", after := #[{ on := 3, ground := .data }], guard := none }) rfl (fun K hK => ?_) ?_
        · rw [if_pos (by rfl)]
          refine wp_load_mid _ _ rfl g 0 rfl (wordV 8 (s8 E)) _ SD.out.range8 hu8 rfl (info_w8 _) ?_
          refine hK _ _ ?_
          clear hK K
          simp only [Act.put, List.setIfInBounds_toArray, List.set_cons_zero, List.set_cons_succ]
          refine wpAny_ready (rs := [8]) (by kernel_rfl) (by simp) ?_
          refine AllReady.cons (o := { dst := some 46, op := .load 93 (.tmp 45), type := 93, pos := "digest.go:63", after := #[{ on := 7, ground := .data }], guard := none }) rfl (fun K hK => ?_) AllReady.nil
          rw [if_pos (by rfl)]
          refine wp_load_mid _ _ rfl g 8 rfl (rowV 64 bl3) _ SD.out.rangeB hu rfl hi ?_
          refine hK _ _ ?_
          clear hK K
          simp only [Act.put, List.setIfInBounds_toArray, List.set_cons_zero, List.set_cons_succ]
          refine wpAny_ready (rs := [9]) (by kernel_rfl) (by simp) ?_
          refine AllReady.cons (o := { dst := some 47, op := .call { callee := .value (.func 52), args := #[.tmp 42, .tmp 46], argTypes := #[87, 93] }, type := 87, pos := "digest.go:63", after := #[{ on := 4, ground := .data }, { on := 8, ground := .data }], guard := none }) rfl (fun K hK => ?_) AllReady.nil
          go_simp
          refine (through_any E t bl3 _ HEU.out HB3.out HST (HTB.out.below (bMe w3).drew)).mono ?_
          rintro e w4 ⟨rfl, hb⟩
          simp only []
          refine hK _ _ ?_
          clear hK K
          have S5 := hide (SD.out.after hb rfl)
          have B3 := hide (B2.out.drew.on hb)
          clear hb
          refine wpAny_take (i := 10) (oi := { dst := some 48, op := .nilCheck (.tmp 38), type := 0, pos := "digest.go:63", after := #[{ on := 0, ground := .data }, { on := 0, ground := .phase }, { on := 1, ground := .phase }, { on := 2, ground := .phase }, { on := 3, ground := .phase }, { on := 4, ground := .phase }, { on := 5, ground := .phase }, { on := 6, ground := .phase }, { on := 7, ground := .phase }, { on := 8, ground := .phase }, { on := 9, ground := .phase }], guard := none }) (v := .pointer (some ⟨g, 0, none⟩)) rfl (by kernel_rfl) (by kernel_rfl) (by kernel_rfl) (fun _ _ _ h => h) (Or.inl ⟨by rfl, fun w => by go_simp⟩) ?_
          simp only [Act.put, List.setIfInBounds_toArray, List.set_cons_zero, List.set_cons_succ]
          refine wpAny_take (i := 11) (oi := { dst := some 49, op := .fieldAddr 95 (.tmp 48) 0, type := 0, pos := "digest.go:63", after := #[{ on := 10, ground := .data }, { on := 0, ground := .phase }, { on := 1, ground := .phase }, { on := 2, ground := .phase }, { on := 3, ground := .phase }, { on := 4, ground := .phase }, { on := 5, ground := .phase }, { on := 6, ground := .phase }, { on := 7, ground := .phase }, { on := 8, ground := .phase }, { on := 9, ground := .phase }], guard := none }) (v := .pointer (some ⟨g, 0, none⟩)) rfl (by kernel_rfl) (by kernel_rfl) (by kernel_rfl) (fun _ _ _ h => h) (Or.inl ⟨by rfl, fun w => by go_simp⟩) ?_
          simp only [Act.put, List.setIfInBounds_toArray, List.set_cons_zero, List.set_cons_succ]
          refine wpAny_ready (rs := [12]) (by kernel_rfl) (by simp) ?_
          refine AllReady.cons (o := { dst := none, op := .store 87 (.tmp 49) (.tmp 47), type := 0, pos := "digest.go:63", after := #[{ on := 11, ground := .data }, { on := 9, ground := .data }, { on := 9, ground := .chain }, { on := 0, ground := .phase }, { on := 1, ground := .phase }, { on := 2, ground := .phase }, { on := 3, ground := .phase }, { on := 4, ground := .phase }, { on := 5, ground := .phase }, { on := 6, ground := .phase }, { on := 7, ground := .phase }, { on := 8, ground := .phase }, { on := 9, ground := .phase }], guard := none }) rfl (fun K hK => ?_) AllReady.nil
          rw [if_pos (by rfl)]
          refine wp_store_mid _ _ _ rfl g 0 (wordV 8 (s8 t)).toArray rfl rfl (S5.out.there8 _) (info_w8A _) (wordV_oneA _ _) ?_
          refine hK _ _ ?_
          clear hK K
          refine wpAny_done (by kernel_rfl) ?_ _
          have S6 := hide (S5.out.put2 (s8 t))
          have B4 : Hid (Bar g wr (w4.setCells g 0 (wordV 8 (s8 t)))) := Bar.cells _ _ B3.out
          simp only []
          generalize w4.setCells g 0 (wordV 8 (s8 t)) = w5 at *
          simp only [Act.put]
          go_wp2
          go_roundg (p.length - m - n)
          case measure => have := HK.out; have := HQL.out; omega
          case rel =>
            refine ⟨m + n, ao2, cap' - n, q.drop n, bl3, by have := HK.out; have := HQL.out; omega, by rw [List.length_drop], ?_, A2.out.bar B4.out O2.out, O2.out, by rw [List.length_drop]; omega, by omega, ?_, HB3, B.out.trans B4.out⟩
            · show _ = _
              rw [← HQ.out, List.drop_drop]
            · rw [take_more p m n q HQ.out, ← List.append_assoc, HL.out]
              exact full_state S6.out (by rw [HRL.out, HH.out]; exact hfull) HRL.out HTT.out
        · refine AllReady.cons (o := { dst := some 46, op := .load 93 (.tmp 45), type := 93, pos := "digest.go:63", after := #[{ on := 7, ground := .data }], guard := none }) rfl (fun K hK => ?_) AllReady.nil
          rw [if_pos (by rfl)]
          refine wp_load_mid _ _ rfl g 8 rfl (rowV 64 bl3) _ SD.out.rangeB hu rfl hi ?_
          refine hK _ _ ?_
          clear hK K
          simp only [Act.put, List.setIfInBounds_toArray, List.set_cons_zero, List.set_cons_succ]
          refine wpAny_ready (rs := [4]) (by kernel_rfl) (by simp) ?_
          refine AllReady.cons (o := { dst := some 42, op := .load 87 (.tmp 41), type := 87, pos := "digest.go:63", after := #[{ on := 3, ground := .data }], guard := none }) rfl (fun K hK => ?_) AllReady.nil
          rw [if_pos (by rfl)]
          refine wp_load_mid _ _ rfl g 0 rfl (wordV 8 (s8 E)) _ SD.out.range8 hu8 rfl (info_w8 _) ?_
          refine hK _ _ ?_
          clear hK K
          simp only [Act.put, List.setIfInBounds_toArray, List.set_cons_zero, List.set_cons_succ]
          refine wpAny_ready (rs := [9]) (by kernel_rfl) (by simp) ?_
          refine AllReady.cons (o := { dst := some 47, op := .call { callee := .value (.func 52), args := #[.tmp 42, .tmp 46], argTypes := #[87, 93] }, type := 87, pos := "digest.go:63", after := #[{ on := 4, ground := .data }, { on := 8, ground := .data }], guard := none }) rfl (fun K hK => ?_) AllReady.nil
          go_simp
          refine (through_any E t bl3 _ HEU.out HB3.out HST (HTB.out.below (bMe w3).drew)).mono ?_
          rintro e w4 ⟨rfl, hb⟩
          simp only []
          refine hK _ _ ?_
          clear hK K
          have S5 := hide (SD.out.after hb rfl)
          have B3 := hide (B2.out.drew.on hb)
          clear hb
          refine wpAny_take (i := 10) (oi := { dst := some 48, op := .nilCheck (.tmp 38), type := 0, pos := "digest.go:63", after := #[{ on := 0, ground := .data }, { on := 0, ground := .phase }, { on := 1, ground := .phase }, { on := 2, ground := .phase }, { on := 3, ground := .phase }, { on := 4, ground := .phase }, { on := 5, ground := .phase }, { on := 6, ground := .phase }, { on := 7, ground := .phase }, { on := 8, ground := .phase }, { on := 9, ground := .phase }], guard := none }) (v := .pointer (some ⟨g, 0, none⟩)) rfl (by kernel_rfl) (by kernel_rfl) (by kernel_rfl) (fun _ _ _ h => h) (Or.inl ⟨by rfl, fun w => by go_simp⟩) ?_
          simp only [Act.put, List.setIfInBounds_toArray, List.set_cons_zero, List.set_cons_succ]
          refine wpAny_take (i := 11) (oi := { dst := some 49, op := .fieldAddr 95 (.tmp 48) 0, type := 0, pos := "digest.go:63", after := #[{ on := 10, ground := .data }, { on := 0, ground := .phase }, { on := 1, ground := .phase }, { on := 2, ground := .phase }, { on := 3, ground := .phase }, { on := 4, ground := .phase }, { on := 5, ground := .phase }, { on := 6, ground := .phase }, { on := 7, ground := .phase }, { on := 8, ground := .phase }, { on := 9, ground := .phase }], guard := none }) (v := .pointer (some ⟨g, 0, none⟩)) rfl (by kernel_rfl) (by kernel_rfl) (by kernel_rfl) (fun _ _ _ h => h) (Or.inl ⟨by rfl, fun w => by go_simp⟩) ?_
          simp only [Act.put, List.setIfInBounds_toArray, List.set_cons_zero, List.set_cons_succ]
          refine wpAny_ready (rs := [12]) (by kernel_rfl) (by simp) ?_
          refine AllReady.cons (o := { dst := none, op := .store 87 (.tmp 49) (.tmp 47), type := 0, pos := "digest.go:63", after := #[{ on := 11, ground := .data }, { on := 9, ground := .data }, { on := 9, ground := .chain }, { on := 0, ground := .phase }, { on := 1, ground := .phase }, { on := 2, ground := .phase }, { on := 3, ground := .phase }, { on := 4, ground := .phase }, { on := 5, ground := .phase }, { on := 6, ground := .phase }, { on := 7, ground := .phase }, { on := 8, ground := .phase }, { on := 9, ground := .phase }], guard := none }) rfl (fun K hK => ?_) AllReady.nil
          rw [if_pos (by rfl)]
          refine wp_store_mid _ _ _ rfl g 0 (wordV 8 (s8 t)).toArray rfl rfl (S5.out.there8 _) (info_w8A _) (wordV_oneA _ _) ?_
          refine hK _ _ ?_
          clear hK K
          refine wpAny_done (by kernel_rfl) ?_ _
          have S6 := hide (S5.out.put2 (s8 t))
          have B4 : Hid (Bar g wr (w4.setCells g 0 (wordV 8 (s8 t)))) := Bar.cells _ _ B3.out
          simp only []
          generalize w4.setCells g 0 (wordV 8 (s8 t)) = w5 at *
          simp only [Act.put]
          go_wp2
          go_roundg (p.length - m - n)
          case measure => have := HK.out; have := HQL.out; omega
          case rel =>
            refine ⟨m + n, ao2, cap' - n, q.drop n, bl3, by have := HK.out; have := HQL.out; omega, by rw [List.length_drop], ?_, A2.out.bar B4.out O2.out, O2.out, by rw [List.length_drop]; omega, by omega, ?_, HB3, B.out.trans B4.out⟩
            · show _ = _
              rw [← HQ.out, List.drop_drop]
            · rw [take_more p m n q HQ.out, ← List.append_assoc, HL.out]
              exact full_state S6.out (by rw [HRL.out, HH.out]; exact hfull) HRL.out HTT.out
      · have hfi : ((hd : Int) + (n : Int) == 64) = false := by simp; omega
        go_wp2
        have S3 : Hid (SB (w2.setCell ⟨g, 72, none⟩ (.int .u64 ((L.length : Int) + (n : Int)))) g (s8 (eight L)) (layB bl' (q.take n) hd) (L.length + n)) := S2.out.count2 _ _ (by omega)
        replace B2 := hide (B2.out.set 72 (.int .u64 ((L.length : Int) + (n : Int))))
        generalize w2.setCell ⟨g, 72, none⟩ (.int .u64 ((L.length : Int) + (n : Int))) = w3 at *
        go_roundg (p.length - m - n)
        case measure => have := HK.out; have := HQL.out; omega
        case rel =>
          refine ⟨m + n, ao2, cap' - n, q.drop n, layB bl' (q.take n) hd, by have := HK.out; have := HQL.out; omega, by rw [List.length_drop], ?_, A2.out.bar B2.out O2.out, O2.out, by rw [List.length_drop]; omega, by omega, ?_, ?_, B.out.trans B2.out⟩
          · show _ = _
            rw [← HQ.out, List.drop_drop]
          · rw [take_more p m n q HQ.out, ← List.append_assoc, HL.out]
            exact part_state S3.out HS.out.rest (by simp [HH.out]; omega) (by simp; omega) HH.out
          · exact lay_bd HBL.out (fun x hx => HBY.out x (by rw [← HQ.out] at hx; exact List.mem_append_right _ (List.mem_of_mem_drop (List.mem_of_mem_take hx)))) _
    · have hq0 : q.length = 0 := by omega
      have hm : m = p.length := by have := HK.out; omega
      have hqe : q = [] := List.eq_nil_of_length_eq_zero hq0
      subst hqe
      rw [hm, List.take_length] at HS
      go_wp2
      refine bodyPost_end (v := .tuple #[]) (results_none Tryd.results48 _ _ _) rfl ?_
      exact ⟨rfl, ⟨bl', HS.out, HBL.out⟩, B.out⟩
end Go.Proofs.YtjkhboejhcbdpaaDoor
