/- The contract of event.Read over this translation. -/
import Derived.Test.YtajkdbpojeaflaaEvtMath
namespace Go.Proofs.Ytajkdbpojeaflaa
open Go.RowKit Go.Lib
attribute [local go_sem] setCell_drewN alloc_drewN

theorem Es.bar {ty : TypeId} {w0 w w' : World} {g : Nat} {v : Value} {xs : List Evt} (h : Es ty w0 w v xs) (hb : Bar g w w') (hg : w0.heap.size ≤ g) (hne : ∀ k, v.ownBlock = some k → k ≠ g) : Es ty w0 w' v xs := by
  refine ⟨⟨h.own.1, ?_⟩, hb.below h.below hg h.below.size⟩
  rcases h.own.2 with hn | ⟨b, cap, cur, rfl, hB, hg', r⟩
  · exact .inl hn
  · exact .inr ⟨b, cap, cur, rfl, hB, by rw [hb.block b (Array.getElem?_eq_some_iff.1 hg').1 (hne b rfl)]; exact hg', r⟩
/-- What stands while a row is read. -/
structure RS9 (w0 w : World) (g : Nat) (rb : Option Nat) (L : List Int) (E : Int) (v : Value) (ys : List Evt) : Prop where
  rdr : Rdr w g rb L E
  es : Es 40 w0 w v ys
  low : w0.heap.size ≤ g
  off : ∀ k, v.ownBlock = some k → k ≠ g ∧ rb ≠ some k
theorem RS9.got {w0 w w' : World} {g : Nat} {rb : Option Nat} {L L' : List Int} {E E' : Int} {v : Value} {ys : List Evt} (h : RS9 w0 w g rb L E v ys) (hr : Rdr w' g rb L' E') (hb : Bar g w w') : RS9 w0 w' g rb L' E' v ys :=
  ⟨hr, h.es.bar hb h.low (fun k hk => (h.off k hk).1), h.low, h.off⟩
theorem RS9.app {w0 w w' : World} {g : Nat} {rb : Option Nat} {L : List Int} {E : Int} {v v' : Value} {ys ys' : List Evt} {o : Obj} (h : RS9 w0 w g rb L E v ys) (he : Es 40 w0 w' v' ys') (hg : (w.alloc o).grownBy w' v.ownBlock) (hv : ∀ k, v'.ownBlock = some k → v.ownBlock = some k ∨ w.heap.size < k) : RS9 w0 w' g rb L E v' ys' := by
  have hl := h.rdr.lt
  have hsz : (w.alloc o).heap.size = w.heap.size + 1 := by simp
  have hbl : ∀ k, k < w.heap.size → some k ≠ v.ownBlock → w'.heap[k]? = w.heap[k]? := fun k hk hne => by
    rw [hg.block k (by omega) hne, Below.heap_alloc _ _ _ hk]
  refine ⟨?_, he, h.low, fun k hk => ?_⟩
  · obtain ⟨ao, cap, hr⟩ := h.rdr
    refine ⟨ao, cap, hr.of (by have := hg.size; omega) (hbl g hl.1 (fun e => (h.off g e.symm).1 rfl)) (fun k hk => hbl k (hl.2.1 k hk) (fun e => (h.off k e.symm).2 hk))⟩
  · rcases hv k hk with e | e
    · exact h.off k e
    · exact ⟨by omega, fun e' => by have := hl.2.1 k e'; omega⟩
/-- How far it went. -/
def Gone (l : List Int) (L : List Int) (E : Int) (ys : List Evt) : Prop :=
  (E = 0 ∧ ∃ m, L.length ≤ m ∧ (rdE l).1 = ys ++ (rdF m L).1 ∧ (rdE l).2 = (rdF m L).2) ∨ (E ≠ 0 ∧ L = [] ∧ (rdE l).2 = E)
theorem Gone.next {l L L' : List Int} {E E' : Int} {ys : List Evt} {x : Evt} (h : Gone l L E ys) (h0 : L ≠ []) (hg : GotE L E x L' E') : Gone l L' E' (ys ++ [x]) ∧ L'.length < L.length := by
  have hpos : 0 < L.length := List.length_pos_iff.2 h0
  rcases h with ⟨rfl, m, hm, h1, h2⟩ | ⟨_, h1, _⟩
  · rcases hg with ⟨_, g1, g2, rfl, rfl, rfl⟩ | ⟨_, g1, g2, rfl, rfl⟩ | ⟨g1, rfl, rfl⟩
    · obtain ⟨m', hm', hr⟩ := rdF_more g1 hm g2
      refine ⟨.inl ⟨rfl, m', hm', ?_, ?_⟩, by simp; omega⟩
      · rw [h1, hr]; simp
      · rw [h2, hr]
    · exact ⟨.inr ⟨by omega, rfl, by rw [h2, rdF_bad g1 hm g2]⟩, by simpa using hpos⟩
    · have hs : L.length < 113 := by
        rcases g1 with g1 | g1
        · exact absurd rfl g1
        · exact g1
      exact ⟨.inr ⟨errOf_ne 0, rfl, by rw [h2, rdF_short h0 hs hm]; rfl⟩, by simpa using hpos⟩
  · exact absurd h1 h0
theorem Gone.done {l : List Int} {E : Int} {ys : List Evt} (h : Gone l [] E ys) : (rdE l).2 = E ∧ (E = 0 → (rdE l).1 = ys) := by
  rcases h with ⟨rfl, m, hm, h1, h2⟩ | ⟨h0, _, h2⟩
  · rw [rdF_nil] at h1 h2; exact ⟨h2, fun _ => by simpa using h1⟩
  · exact ⟨h2, fun e => absurd e h0⟩
/-- What Read answers. -/
def ReadsE (w w' : World) (l : List Int) (r : Ending) : Prop :=
  ((rdE l).2 = 0 ∧ ∃ v, r = .returned (.tuple #[v, .int .i64 0]) ∧ Es 40 w w' v (rdE l).1) ∨ ((rdE l).2 ≠ 0 ∧ r = .returned (.tuple #[.slice none 0 0, .int .i64 (rdE l).2]) ∧ Below w.heap.size w w')
theorem GotE.byt {L : List Int} {E : Int} {x : Evt} {L' : List Int} {E' : Int} (h : GotE L E x L' E') (hl : Byt L) : Byt L' := by
  rcases h with ⟨_, _, _, _, rfl, _⟩ | ⟨_, _, _, rfl, _⟩ | ⟨_, rfl, _⟩
  · exact hl.drop 113
  · exact fun x hx => by simp at hx
  · exact fun x hx => by simp at hx
set_option maxRecDepth 100000 in
set_option maxHeartbeats 4000000 in
theorem read9_any {w : World} (so : Option Addr) (c : Nat) (l : List Int) (hs : At w so l) (hso : so = none → c = 0) (hl : Byt l) (hll : l.length ≤ 20000) :
    Calls Try.prog 13 #[.slice so l.length c] w fun r w' => ReadsE w w' l r := by
  have HS := hide hs; have HSO := hide hso; have HL := hide hl; have HLL := hide hll
  clear hs hso hl
  go_enter Try.func13, Try.ntmps13
  go_wp2_with fail
  refine (rof_any so c l HS.out HSO.out (by omega)).mono ?_
  rintro r w2 ⟨g, rb, rfl, hr, hg, hrb, hb⟩
  have S : Hid (RS9 w w2 g rb l 0 (.slice none 0 0) []) := ⟨hr, ⟨World.ownsRow_nil _ _ _ _, hb⟩, hg, fun k hk => by simp [Value.ownBlock] at hk⟩
  have GN : Hid (Gone l l 0 []) := .inl ⟨rfl, l.length, Nat.le_refl _, by simp [rdE], rfl⟩
  clear hr hg hrb hb HS HSO hll
  go_wp2
  go_loopg [5] l.length (fun gk v wr => ∃ (L : List Int) (E : Int) (ys : List Evt), L.length = gk ∧ ys.length + gk ≤ 20000 ∧ Byt L ∧ RS9 w wr g rb L E v ys ∧ Gone l L E ys)
  case atStart => exact ⟨l, 0, [], rfl, by have := HLL.out; simpa using this, HL.out, S.out, GN.out⟩
  case round =>
    clear S GN HL
    obtain ⟨L, E, ys, hlen, hy, hby, hs, hgn⟩ := hrel
    have S := hide hs; have GN := hide hgn; have HY := hide hy; have HB := hide hby; have HLEN := hide hlen
    clear hs hgn hy hby hlen
    by_cases h0 : 0 < L.length
    · have h0i : (0 : Int) < (L.length : Int) := by omega
      go_wp2_with fail
      refine (left_any S.out.rdr).mono ?_
      rintro r w3 ⟨rfl, rfl⟩
      go_wp2_with fail
      refine (get9_any S.out.rdr HB.out).mono ?_
      rintro r w4 ⟨x, L', E', rfl, hx, hgot, hr, hb⟩
      have NX := hide (GN.out.next (fun e => by rw [e] at h0; simp at h0) hgot)
      have HB' := hide (hgot.byt HB.out)
      replace S := hide (S.out.got hr hb)
      have hly : ys.length ≤ 100000 := by have := HY.out; omega
      clear hx hgot hr hb
      go_wp2_with (first
        | refine build_evE rfl _ rfl x rfl ?_
        | (at_builtin; refine app_evE rfl _ _ rfl _ ys x rfl rfl S.out.es hly ?_))
      intro v' w5 h1 h2 h3
      have S2 := hide (S.out.app h1 h2 h3)
      clear h1 h2 h3
      go_wp2
      go_roundg L'.length
      case measure => have := HLEN.out; have := NX.out.2; omega
      case rel => exact ⟨L', E', _, rfl, by have := HY.out; have := HLEN.out; have := NX.out.2; simp; omega, HB'.out, S2.out, NX.out.1⟩
    · obtain rfl : L = [] := List.eq_nil_of_length_eq_zero (by omega)
      have D := hide GN.out.done
      go_wp2_with fail
      refine (left_any S.out.rdr).mono ?_
      rintro r w3 ⟨rfl, rfl⟩
      go_wp2_with fail
      refine (err_any S.out.rdr).mono ?_
      rintro r w4 ⟨rfl, rfl⟩
      by_cases he : E = 0
      · subst he
        go_wp2
        go_ret2
        exact .inl ⟨D.out.1, _, rfl, by rw [D.out.2 (by simp)]; exact S.out.es⟩
      · have he' : (E != 0) = true := by simpa using he
        go_wp2
        go_ret2
        exact .inr ⟨by rw [D.out.1]; exact he, by rw [D.out.1]; rfl, S.out.es.below⟩
end Go.Proofs.Ytajkdbpojeaflaa
