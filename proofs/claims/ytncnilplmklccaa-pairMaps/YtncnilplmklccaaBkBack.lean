/- The contract of (*stage.Journal).Back over this translation. -/
import Derived.Test.YtncnilplmklccaaBkDrop
import Derived.Deep.Light
import Derived.Laws.EntriesVeiled
namespace Go.Proofs.Ytncnilplmklccaa
set_option linter.unusedSimpArgs false
set_option linter.unusedVariables false
set_option linter.unusedSectionVars false
open Go.RowKit Go.Lib
attribute [local go_sem] setCell_drewN alloc_drewN

/-- The last deed is struck off the row. -/
theorem St.pop {w : World} {S Z : Nat → Prop} {bj : Jb} {A : List Nat} {mb : Nat → Nat} {X : Nat → Kvs} {ds : Deeds} {d : Deed Kk Nm} (h : St w S Z bj A mb X (ds ++ [d])) :
    ∃ g cap u, w.cell? ⟨bj.b, 0, none⟩ = some (.slice (some ⟨g, 0, none⟩) (bj.P.length + ds.length + 1) cap) ∧ (bj.P.length + ds.length + 1 ≤ cap ∧ cap ≤ maxLen) ∧ w.cell? ⟨g, bj.P.length + ds.length, none⟩ = some u ∧ w.frozen? ⟨g, bj.P.length + ds.length, none⟩ = false ∧ w.frozen? ⟨bj.b, 0, none⟩ = false ∧ DeedAt ((w.setCell ⟨g, bj.P.length + ds.length, none⟩ .nilFunc).setCell ⟨bj.b, 0, none⟩ (.slice (some ⟨g, 0, none⟩) (bj.P.length + ds.length) cap)) Z d u ∧ g ≠ bj.b ∧
      St ((w.setCell ⟨g, bj.P.length + ds.length, none⟩ .nilFunc).setCell ⟨bj.b, 0, none⟩ (.slice (some ⟨g, 0, none⟩) (bj.P.length + ds.length) cap)) S Z bj A mb X ds ∧ Mv S S w ((w.setCell ⟨g, bj.P.length + ds.length, none⟩ .nilFunc).setCell ⟨bj.b, 0, none⟩ (.slice (some ⟨g, 0, none⟩) (bj.P.length + ds.length) cap)) := by
  obtain ⟨low, stat, jS, jZ, jf, ext, ⟨v, us, r1, r2, r3, r4, r5⟩, box, map, inj, srt, mine⟩ := h
  have hl : us.length = ds.length + 1 := by rw [r4]; simp
  obtain ⟨u, hu, hd⟩ := r5 ds.length d (by simp)
  have hlp : (bj.P ++ us).length = bj.P.length + ds.length + 1 := by rw [List.length_append, hl]; omega
  have hup : (bj.P ++ us)[bj.P.length + ds.length]? = some u := by rw [List.getElem?_append_right (by omega)]; rw [show bj.P.length + ds.length - bj.P.length = ds.length by omega]; exact hu
  generalize hps : bj.P ++ us = ps at *
  generalize hn : bj.P.length + ds.length = n at *
  rcases r2.2 with ⟨e, h0⟩ | ⟨g, cap, cur, rfl, hB, hg, hcap, hm, hs, ht⟩
  · omega
  obtain ⟨g1, g2, g3⟩ := r3 g rfl
  rw [hlp] at r1 hcap
  have r2' : w.ownsRow 0 1 1 (.slice (some ⟨g, 0, none⟩) (n + 1) cap) (n + 1) ps := by rw [← hlp]; exact r2
  have cu : w.cell? ⟨g, n, none⟩ = some u := by rw [World.ownsRow.cellAt r2' n (by omega)]; exact hup
  have fu := World.ownsRow.frozenAt r2' n
  obtain ⟨w2, hw2⟩ : ∃ w2, (w.setCell ⟨g, n, none⟩ .nilFunc).setCell ⟨bj.b, 0, none⟩ (.slice (some ⟨g, 0, none⟩) n cap) = w2 := ⟨_, rfl⟩
  have hz : w2.heap.size = w.heap.size := by rw [← hw2]; simp [World.setCell]
  have ho : ∀ k, k ≠ bj.b → k ≠ g → w2.heap[k]? = w.heap[k]? := fun k h1 h2 => by rw [← hw2, Below.heap_setCell _ _ _ _ h1, Below.heap_setCell _ _ _ _ h2]
  have zo : ∀ k, Z k → w2.heap[k]? = w.heap[k]? := fun k hk => ho k (fun e => jZ (e ▸ hk)) fun e => g2 (e ▸ hk)
  have cb : w2.cell? ⟨bj.b, 0, none⟩ = some (.slice (some ⟨g, 0, none⟩) n cap) := by rw [← hw2]; simp [go_sem, r1, Ne.symm g3, g3]
  have fb : ∀ o, w2.frozen? ⟨bj.b, o, none⟩ = false := fun o => by rw [← hw2]; simp [go_sem, jf]
  have xb : ∀ (i : Nat) v, bj.E[i]? = some v → w2.cell? ⟨bj.b, i + 1, none⟩ = some v := fun i v hv => by rw [← hw2]; simp [go_sem, ext i v hv, Ne.symm g3, g3]
  have hg2 : w2.heap[g]? = some (.cells (cur.setIfInBounds n .nilFunc) 1 (0, 0)) := by
    rw [← hw2, Below.heap_setCell _ _ _ _ g3]
    exact heap_setCell_same w g n cur _ _ hg
  have rr : FRow w2 (.slice (some ⟨g, 0, none⟩) (ps.take n).length cap) (ps.take n) := by
    have e : (ps.take n).length = n := by rw [List.length_take]; omega
    refine ⟨by simp, .inr ⟨g, cap, _, rfl, hB, hg2, by rw [e]; omega, hm, by simpa using hs, ?_⟩⟩
    rw [e, Nat.mul_one, Array.toList_setIfInBounds, List.take_set_of_le (Nat.le_refl _), ← ht, List.take_take]
    congr 1
    omega
  have ep : (ps.take n).length = n := by rw [List.length_take]; omega
  have etk : ps.take n = bj.P ++ us.take ds.length := by rw [← hps, List.take_append, ← hn, Nat.add_sub_cancel_left, List.take_of_length_le (by omega)]
  have el : (us.take ds.length).length = ds.length := by rw [List.length_take]; omega
  refine ⟨g, cap, u, r1, ⟨hcap, hm⟩, cu, fu, jf 0, ?_⟩
  rw [hw2]
  refine ⟨hd.of zo fun _ => id, g3, ⟨fun k hk => by rw [hz]; exact low k hk, stat, jS, jZ, fb, xb, ⟨_, us.take ds.length, cb, by rw [ep, etk] at rr; exact rr, fun b hb => r3 b hb, el, fun i x hx => ?_⟩, fun a ha => ?_, fun a ha => ?_, inj, srt, fun x hx => mine x (List.mem_append_left _ hx)⟩, ⟨by rw [← hw2]; rfl, by rw [← hw2]; rfl, by rw [← hw2]; rfl, by rw [hz]; exact Nat.le_refl _, fun k _ hk => ho k (fun e => hk (e ▸ jS)) fun e => hk (e ▸ g1), fun k hk => .inl hk⟩⟩
  · have hi : i < ds.length := (List.getElem?_eq_some_iff.1 hx).1
    obtain ⟨y, hy, hy'⟩ := r5 i x (by rw [List.getElem?_append_left hi]; exact hx)
    exact ⟨y, by rw [List.getElem?_take, if_pos hi]; exact hy, hy'.of zo fun _ => id⟩
  · obtain ⟨b1, b2, b3⟩ := box a ha
    exact ⟨b1, b2, b3.of (zo a b1)⟩
  · exact (map a ha).of _ (ho _ ((map a ha).ne r1) (r2.noMap rfl (map a ha)))
theorem backNo_any {w : World} {S Z : Nat → Prop} {bj : Jb} {A : List Nat} {mb : Nat → Nat} {X : Nat → Kvs} {ds : Deeds} (hs : St w S Z bj A mb X ds) (hP : bj.P = []) (n : Int) (hn : n < 0 ∨ (ds.length : Int) < n) (hds : ds.length ≤ 100000) :
    Calls Try.prog 36 #[.pointer (some ⟨bj.b, 0, none⟩), .int .i64 n] w fun e w' => e = .returned (.bool false) ∧ w' = w := by
  obtain ⟨v, us, r1, r2, _, r4, _⟩ := hs.row
  rw [hP, List.nil_append] at r2
  obtain ⟨p, c, hv⟩ : ∃ p c, v = .slice p us.length c := by
    rcases r2.2 with ⟨e, h0⟩ | ⟨g, cap, cur, e, _⟩
    · exact ⟨none, 0, by rw [e, h0]⟩
    · exact ⟨_, _, e⟩
  subst hv
  rw [r4] at r1
  clear r2 r4 hs
  by_cases h0 : n < 0
  · go_enter Try.func36, Try.ntmps36
    go_wp2
    go_ret
    exact ⟨rfl, rfl⟩
  · have h1 : (ds.length : Int) < n := by omega
    clear hn
    go_enter Try.func36, Try.ntmps36
    go_wp2
    go_ret
    exact ⟨rfl, rfl⟩
theorem undoN_len (ds : Deeds) : ∀ (X : Nat → Kvs) (a : Nat), (undoN kyKey ds X a).length ≤ (X a).length + ds.length := by
  intro X a
  induction ds with
  | nil => simp [undoN]
  | cons d r ih =>
    show (undo1 kyKey d (undoN kyKey r X) a).length ≤ _
    unfold undo1
    by_cases e : a = d.m
    · rw [e, upX_same]
      unfold undoL
      rw [e] at ih
      cases d.old with
      | none => have := delL_length d.k (undoN kyKey r X d.m); simp only [List.length_cons]; omega
      | some v => have := putL_length kyKey (k := d.k) (v := v) (L := undoN kyKey r X d.m); simp only [List.length_cons]; omega
    · rw [upX_other _ e]
      simp only [List.length_cons]
      omega
set_option maxHeartbeats 4000000 in
theorem back_any {w : World} {S Z : Nat → Prop} {bj : Jb} {A : List Nat} {mb : Nat → Nat} {X : Nat → Kvs} {ds : Deeds} (hs : St w S Z bj A mb X ds) (hP : bj.P = []) (n : Nat) (hn : n ≤ ds.length) (hds : ds.length ≤ 100000) (hX : ∀ a, (X a).length ≤ 100000) :
    Calls Try.prog 36 #[.pointer (some ⟨bj.b, 0, none⟩), .int .i64 n] w fun e w' => e = .returned (.bool true) ∧ St w' S Z bj A mb (undoN kyKey (ds.drop n) X) (ds.take n) ∧ Mv S S w w' := by
  obtain ⟨v, us, r1, r2, _, r4, _⟩ := hs.row
  rw [hP, List.nil_append] at r2
  obtain ⟨p, c, hv⟩ : ∃ p c, v = .slice p us.length c := by
    rcases r2.2 with ⟨e, h0⟩ | ⟨g, cap, cur, e, _⟩
    · exact ⟨none, 0, by rw [e, h0]⟩
    · exact ⟨_, _, e⟩
  subst hv
  rw [r4] at r1
  clear r2 r4
  have HS := hide hs
  have hlen := fun m => hide (fun a => undoN_len (ds.drop m) X a)
  have HX := hide hX
  clear hs hX
  have hn1 : (n : Int) ≤ ds.length := by omega
  have hd1 : (ds.length : Int) ≤ 100000 := by omega
  have hd0 : decide ((n : Int) < 0) = false := by simp
  have hd2 : decide (ds.length < n) = false := by simp; omega
  have hs1 : IntKind.i64.wrap ((ds.length : Int) - 1) = (ds.length : Int) - 1 := by rw [IntKind.wrap_i64]; omega
  go_enter Try.func36, Try.ntmps36
  go_wp2
  go_loopw [5] (fun i wr => ∃ m : Nat, n ≤ m ∧ m ≤ ds.length ∧ i = .int .i64 ((m : Int) - 1) ∧ St wr S Z bj A mb (undoN kyKey (ds.drop m) X) (ds.take m) ∧ Mv S S w wr) (fun i _ => (intOf i + 1).toNat)
  case atStart => exact ⟨ds.length, hn, Nat.le_refl _, rfl, by rw [List.drop_length, List.take_length]; exact HS.out, Mv.refl _ _⟩
  case round =>
    obtain ⟨m, h1, h2, rfl, h4, h5⟩ := hrel
    by_cases hlt : n < m
    · obtain ⟨m0, rfl⟩ : ∃ m0, m = m0 + 1 := ⟨m - 1, by omega⟩
      have ec : ((m0 + 1 : Nat) : Int) - 1 = (m0 : Int) := by omega
      have hge : (n : Int) ≤ (m0 : Int) := by omega
      have hm0 : (m0 : Int) ≤ 100000 := by omega
      have hw0 : IntKind.i64.wrap ((m0 : Int) - 1) = (m0 : Int) - 1 := by rw [IntKind.wrap_i64]; omega
      have htk : ds.take (m0 + 1) = ds.take m0 ++ [ds[m0]] := by rw [List.take_succ_eq_append_getElem (by omega)]
      have hdr : ds.drop m0 = ds[m0] :: ds.drop (m0 + 1) := List.drop_eq_getElem_cons (by omega)
      have el : (ds.take m0).length = m0 := by rw [List.length_take]; omega
      have hmine := h4.mine ds[m0] (by rw [htk]; exact List.mem_append_right _ (List.mem_singleton.2 rfl))
      have hle : (undoN kyKey (ds.drop (m0 + 1)) X ds[m0].m).length ≤ 1000000 := by
        have := (hlen (m0 + 1)).out ds[m0].m
        have := HX.out ds[m0].m
        rw [List.length_drop] at *
        omega
      have hun : undo1 kyKey ds[m0] (undoN kyKey (ds.drop (m0 + 1)) X) = undoN kyKey (ds.drop m0) X := by rw [hdr]; rfl
      rw [htk] at h4
      obtain ⟨g, cap, u, p1, ⟨p2, _⟩, p3, p4, p5, p6, p7, p8, p9⟩ := h4.pop
      rw [hP, el] at p1 p2 p3 p4 p6 p8 p9
      simp only [List.length_nil, Nat.zero_add] at p1 p2 p3 p4 p6 p8 p9
      have P8 := hide p8
      have M9 := hide (h5.trans p9)
      have HUN := hide hun
      have HTK := hide (And.intro hmine hle)
      rw [ec]
      clear h4 h5 p8 p9 hun htk hdr hmine hle hlen el ec r1
      rcases p6 with ⟨bh, bo, bm, bk, rfl, _, c1, c2, c3, c4⟩ | ⟨bo, bm, bk, v, rfl, _, e, c2, c3, c4⟩
      · have HU := hide (undoSet_st P8.out HTK.out.1 HTK.out.2 c1 c2 c3 c4)
        clear c1 c2 c3 c4 P8
        go_wp2_with (go_at_call 75; refine HU.out.mono ?_; clear HU; rintro e w3 ⟨rfl, q1, q2⟩)
        go_light
        go_roundw
        case rel => exact ⟨m0, by omega, by omega, rfl, by rw [← HUN.out]; exact q1, M9.out.trans q2⟩
        case measure => simp [intOf]
      · have HU := hide (undoDrop_st P8.out HTK.out.1 HTK.out.2 e c2 c3 c4)
        clear c2 c3 c4 P8
        go_wp2_with (go_at_call 73; refine HU.out.mono ?_; clear HU; rintro e w3 ⟨rfl, q1, q2⟩)
        go_roundw
        case rel => exact ⟨m0, by omega, by omega, rfl, by rw [← HUN.out]; exact q1, M9.out.trans q2⟩
        case measure => simp [intOf]
    · obtain rfl : m = n := by omega
      have H4 := hide h4
      have H5 := hide h5
      have hlt2 : ¬ (m : Int) ≤ (m : Int) - 1 := by omega
      clear h4 h5
      go_wp2
      go_ret
      exact ⟨rfl, H4.out, H5.out⟩
/-- A journal's row is written anew. -/
theorem St.keep {w : World} {S Z : Nat → Prop} {bj : Jb} {A : List Nat} {mb : Nat → Nat} {X : Nat → Kvs} {ds : Deeds} (h : St w S Z bj A mb X ds) :
    St (w.setCell ⟨bj.b, 0, none⟩ (.slice none 0 0)) S Z ⟨bj.b, [], bj.E, by simp⟩ A mb X [] ∧ Mv S S w (w.setCell ⟨bj.b, 0, none⟩ (.slice none 0 0)) := by
  obtain ⟨low, stat, jS, jZ, jf, ext, ⟨v, us, r1, r2, r3, r4, r5⟩, box, map, inj, srt, mine⟩ := h
  have hz : (w.setCell ⟨bj.b, 0, none⟩ (.slice none 0 0)).heap.size = w.heap.size := by simp [World.setCell]
  have ho : ∀ k, k ≠ bj.b → (w.setCell ⟨bj.b, 0, none⟩ (.slice none 0 0)).heap[k]? = w.heap[k]? := fun k hk => Below.heap_setCell _ _ _ _ hk
  refine ⟨⟨fun k hk => by rw [hz]; exact low k hk, stat, jS, jZ, fun o => by simp [go_sem, jf], fun i u hu => by simp [go_sem, ext i u hu], ⟨.slice none 0 0, [], by simp [go_sem, r1], World.ownsRow_nil _ _ _ _, fun b hb => by simp [Value.ownBlock] at hb, rfl, fun i d hd => by simp at hd⟩, fun a ha => ?_, fun a ha => ?_, inj, srt, fun d hd => by simp at hd⟩, ⟨rfl, rfl, rfl, by rw [hz]; exact Nat.le_refl _, fun k _ hk => ho k (by rintro rfl; exact hk jS), fun k hk => .inl hk⟩⟩
  · obtain ⟨b1, b2, b3⟩ := box a ha
    exact ⟨b1, b2, b3.of (ho a (by rintro rfl; exact jZ b1))⟩
  · exact (map a ha).of _ (ho _ ((map a ha).ne r1))
theorem keep_any {w : World} {S Z : Nat → Prop} {bj : Jb} {A : List Nat} {mb : Nat → Nat} {X : Nat → Kvs} {ds : Deeds} (h : St w S Z bj A mb X ds) :
    Calls Try.prog 37 #[.pointer (some ⟨bj.b, 0, none⟩)] w fun e w' => e = .returned (.tuple #[]) ∧ St w' S Z ⟨bj.b, [], bj.E, by simp⟩ A mb X [] ∧ Mv S S w w' := by
  obtain ⟨v, us, r1, _⟩ := h.row
  have f0 := h.jf 0
  have H := hide h.keep
  clear h
  go_enter Try.func37, Try.ntmps37
  go_wp2
  go_end0
  exact ⟨rfl, H.out⟩
end Go.Proofs.Ytncnilplmklccaa
