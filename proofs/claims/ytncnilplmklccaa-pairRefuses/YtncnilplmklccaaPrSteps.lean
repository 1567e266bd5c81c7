/- Tries in memory (sponsionlaw14.Step), and what their functions do. -/
import Derived.Test.YtncnilplmklccaaPrDeed
import Derived.Test.YtncnilplmklccaaPrBytes
import Derived.Deep.MidRow
namespace Go.Proofs.Ytncnilplmklccaa
set_option linter.unusedSimpArgs false
set_option linter.unusedVariables false
open Go.RowKit Go.Lib
attribute [local go_sem] setCell_drewN alloc_drewN

/-- A try. -/
structure Stp where
  f : Int
  n : Int
  ds : List Dd
  x : Int
structure Stp.Ok (x : Stp) : Prop where
  f : 0 ≤ x.f ∧ x.f < 256
  n : 0 ≤ x.n ∧ x.n < 18446744073709551616
  ds : ∀ d ∈ x.ds, d.Ok
  len : x.ds.length ≤ maxLen
/-- Deeds, at an address; tries, at an address. -/
def Dds (w : World) (ao : Option Addr) (ds : List Dd) : Prop :=
  ds = [] ∨ ∃ b off, ao = some ⟨b, off, none⟩ ∧ b < w.heap.size ∧ ∀ (j : Nat) d, ds[j]? = some d → w.rangeAt b (off + j * 9) (ddV d)
abbrev stV (x : Stp) (ad : Option Addr) (cd : Nat) : List Value := [.int .u8 x.f, .int .u64 x.n, .slice ad x.ds.length cd, .int .i64 x.x]
def Sts (w : World) (ao : Option Addr) (xs : List Stp) : Prop :=
  xs = [] ∨ ∃ b off, ao = some ⟨b, off, none⟩ ∧ b < w.heap.size ∧ ∀ (j : Nat) x, xs[j]? = some x → ∃ ad cd, w.rangeAt b (off + j * 4) (stV x ad cd) ∧ Dds w ad x.ds
theorem rangeAt_cell {w : World} {b o : Nat} {vs : List Value} (h : w.rangeAt b o vs) (j : Nat) {v : Value} (hv : vs[j]? = some v) : w.cell? ⟨b, o + j, none⟩ = some v := h j v hv
theorem rangeAt_of {w w' : World} {b o : Nat} {vs : List Value} (h : w.rangeAt b o vs) (hb : w'.heap[b]? = w.heap[b]?) : w'.rangeAt b o vs := fun j v hv => (World.cell?_of_block (w := w) (a := ⟨b, o + j, none⟩) hb).trans (h j v hv)
theorem Dds.got {W w : World} {ao : Option Addr} {ds : List Dd} (h : Dds W ao ds) (hb : Below W.heap.size W w) {j : Nat} {d : Dd} (hd : ds[j]? = some d) : ∃ b off, ao = some ⟨b, off, none⟩ ∧ b < W.heap.size ∧ w.rangeAt b (off + j * 9) (ddV d) := by
  rcases h with rfl | ⟨b, off, e, hl, hc⟩
  · simp at hd
  · exact ⟨b, off, e, hl, rangeAt_of (hc j d hd) (hb.block b hl)⟩
theorem Sts.got {W w : World} {ao : Option Addr} {xs : List Stp} (h : Sts W ao xs) (hb : Below W.heap.size W w) {j : Nat} {x : Stp} (hx : xs[j]? = some x) : ∃ b off ad cd, ao = some ⟨b, off, none⟩ ∧ b < W.heap.size ∧ w.rangeAt b (off + j * 4) (stV x ad cd) ∧ Dds W ad x.ds := by
  rcases h with rfl | ⟨b, off, e, hl, hc⟩
  · simp at hx
  · obtain ⟨ad, cd, h1, h2⟩ := hc j x hx
    exact ⟨b, off, ad, cd, e, hl, rangeAt_of h1 (hb.block b hl), h2⟩
/-- Deeds, up to the first that is refused: the error, and both books. -/
def rD : (Nat → Kvs) → List Dd → Int × (Nat → Kvs)
  | L, [] => (0, L)
  | L, d :: r => if dE L d = 0 then rD (upS L d.sd (dL L d)) r else (dE L d, upS L d.sd (dL L d))
theorem rD_snoc : ∀ (ds : List Dd) (L : Nat → Kvs) (d : Dd), (rD L ds).1 = 0 → rD L (ds ++ [d]) = (dE (rD L ds).2 d, upS (rD L ds).2 d.sd (dL (rD L ds).2 d))
  | [], L, d, _ => by
    show rD L [d] = _
    by_cases h : dE L d = 0
    · simp [rD, h]
    · simp [rD, h]
  | a :: r, L, d, h => by
    by_cases ha : dE L a = 0
    · have e : rD L (a :: r) = rD (upS L a.sd (dL L a)) r := by simp [rD, ha]
      rw [e] at h ⊢
      rw [← rD_snoc r _ d h]
      simp [rD, ha]
    · simp [rD, ha] at h
theorem rD_stop : ∀ (ds es : List Dd) (L : Nat → Kvs), (rD L ds).1 ≠ 0 → rD L (ds ++ es) = rD L ds
  | [], es, L, h => by simp [rD] at h
  | a :: r, es, L, h => by
    by_cases ha : dE L a = 0
    · have e : rD L (a :: r) = rD (upS L a.sd (dL L a)) r := by simp [rD, ha]
      rw [e] at h ⊢
      rw [← rD_stop r es _ h]
      simp [rD, ha]
    · simp [rD, ha]
theorem Px.conv {n n' c c' : Nat} {H H' : Nat → Nat → Kvs} {L L' : Nat → Kvs} (h : Px n H n' H' L c) (e : ∀ s, s < 2 → L s = L' s) (hc : c ≤ c') : Px n H n' H' L' c' :=
  ⟨h.le, by have := h.up; omega, h.was, fun s hs => (h.now s hs).trans (e s hs)⟩
theorem dE_congr {L L' : Nat → Kvs} {d : Dd} (h : L d.sd = L' d.sd) : dE L d = dE L' d ∧ dL L d = dL L' d := by unfold dE dL; rw [h]; exact ⟨rfl, rfl⟩
theorem upS_congr {L L' : Nat → Kvs} {i : Nat} {M M' : Kvs} (h : ∀ s, s < 2 → L s = L' s) (e : M = M') (s : Nat) (hs : s < 2) : upS L i M s = upS L' i M' s := by
  unfold upS
  by_cases he : s = i
  · simp [he, e]
  · simp [he, h s hs]
/-- The pair behind a try's function. -/
def DoDone (W w : World) (bp : Nat) (P : List Value) (n : Nat) (H : Nat → Nat → Kvs) (N : List Int) (Fr : Nat → Prop) (x : Stp) (m : Int) (e : Ending) (w' : World) : Prop :=
  e = .returned (.int .i64 (if (rD (fun i => H i n) x.ds).1 = 0 then m else (rD (fun i => H i n) x.ds).1)) ∧ ∃ n' H', Pr W w' bp P n' H' N Fr ∧ Kp Fr w w' ∧ Px n H n' H' (rD (fun i => H i n) x.ds).2 (2 * x.ds.length)
set_option maxHeartbeats 4000000 in
theorem do14_any {W w : World} {bp n : Nat} {P : List Value} {H : Nat → Nat → Kvs} {N : List Int} {Fr : Nat → Prop} {x : Stp} {gs gp cd : Nat} {ad : Option Addr} (p : Pr W w bp P n H N Fr) (hx : x.Ok) (hd : Dds W ad x.ds) (hn : n + 2 * x.ds.length ≤ 9000) (fs : Fr gs) (fp : Fr gp)
    (V : VRow w gs (stV x ad cd)) (cp : w.cell? ⟨gp, 0, none⟩ = some (.pointer (some ⟨bp, 0, none⟩))) :
    Calls Try.prog 26 #[.pointer (some ⟨gs, 0, none⟩), .pointer (some ⟨gp, 0, none⟩)] w fun e w' => DoDone W w bp P n H N Fr x (bits BinOp.and .i64 x.x 15) e w' := by
  have v2 := V.cell 2 rfl
  have HPR := hide p
  have HV := hide V
  have HD := hide hd
  clear p V hd
  go_enter Try.func26, Try.ntmps26
  go_wp2
  go_loopw [9] (fun t wr => ∃ (k n' : Nat) (H' : Nat → Nat → Kvs), k ≤ x.ds.length ∧ t = .int .i64 k ∧ Pr W wr bp P n' H' N Fr ∧ Kp Fr w wr ∧ (rD (fun i => H i n) (x.ds.take k)).1 = 0 ∧ Px n H n' H' (rD (fun i => H i n) (x.ds.take k)).2 (2 * k)) (fun t _ => (x.ds.length - intOf t).toNat)
  case atStart => exact ⟨0, n, H, by omega, rfl, HPR.out, ⟨Nat.le_refl _, fun _ _ => rfl⟩, rfl, Px.refl n H 0⟩
  case round =>
    obtain ⟨k, n', H', hk, rfl, pr, kp, h0, px⟩ := hrel
    clear HPR
    have u2 := (kp.cell fs).trans v2
    have up := (kp.cell fp).trans cp
    have u3 := (kp.cell fs).trans (HV.out.cell 3 rfl)
    by_cases hlt : k < x.ds.length
    · have hlt1 : (k : Int) < x.ds.length := by omega
      obtain ⟨d, hdk⟩ : ∃ d, x.ds[k]? = some d := ⟨x.ds[k], List.getElem?_eq_getElem hlt⟩
      have hdo := hx.ds d (List.mem_of_getElem? hdk)
      obtain ⟨b, off, rfl, hlb, hr⟩ := HD.out.got pr.be hdk
      have e0 : wr.cell? ⟨b, off + k * 9, none⟩ = some (.int .u8 d.s) := rangeAt_cell hr 0 rfl
      have e1 := rangeAt_cell hr 1 rfl
      have e2 := rangeAt_cell hr 2 rfl
      have e3 := rangeAt_cell hr 3 rfl
      have e4 := rangeAt_cell hr 4 rfl
      have e5 := rangeAt_cell hr 5 rfl
      have e6 := rangeAt_cell hr 6 rfl
      have e7 := rangeAt_cell hr 7 rfl
      have e8 := rangeAt_cell hr 8 rfl
      have htk : x.ds.take (k + 1) = x.ds.take k ++ [d] := by
        rw [List.take_succ_eq_append_getElem hlt]
        rw [List.getElem?_eq_getElem hlt] at hdk
        injection hdk with hdk
        rw [hdk]
      have hlen : wr.heap.size < wr.heap.size + 1 := by omega
      have PRX := hide (And.intro pr (And.intro kp (And.intro h0 px)))
      have lgp : gp < wr.heap.size := cell_lt up
      clear pr kp px h0 hr
      have hnk : n' ≤ 9000 := by have := PRX.out.2.2.2.up; omega
      have C := hide (one14_any (PRX.out.1.below (bAl (o := .cells (ddV d).toArray 71) (bMe wr))) hdo hnk)
      have HC := hide (dE_congr (L := fun i => H' i n') (L' := (rD (fun i => H i n) (x.ds.take k)).2) (d := d) (PRX.out.2.2.2.now d.sd d.sd_lt))
      go_wp2_with fail
      refine C.out.mono ?_
      clear C
      rintro e w3 ⟨rfl, n2, H2, p2, k2, x2⟩
      have K3 : Kp Fr wr w3 := ((PRX.out.1.kp (bAl (o := .cells (ddV d).toArray 71) (bMe wr)))).trans k2
      have X3 : Px n H n2 H2 (upS (rD (fun i => H i n) (x.ds.take k)).2 d.sd (dL (rD (fun i => H i n) (x.ds.take k)).2 d)) (2 * k + 2) := (PRX.out.2.2.2.trans x2).conv (upS_congr (fun s hs => PRX.out.2.2.2.now s hs) HC.out.2) (Nat.le_refl _)
      have N3 := hide (And.intro p2 (And.intro (PRX.out.2.1.trans K3) X3))
      rw [HC.out.1]
      have RS := hide (rD_snoc (x.ds.take k) (fun i => H i n) d PRX.out.2.2.1)
      rw [← htk] at RS
      clear p2 k2 x2 K3 X3 HC PRX htk
      obtain ⟨LL, hLL⟩ : ∃ LL, (rD (fun i => H i n) (x.ds.take k)).2 = LL := ⟨_, rfl⟩
      rw [hLL] at N3 RS ⊢
      obtain ⟨E, hE⟩ : ∃ E, dE LL d = E := ⟨_, rfl⟩
      rw [hE] at RS ⊢
      clear hE hLL e0 e1 e2 e3 e4 e5 e6 e7 e8
      by_cases hE0 : E = 0
      · subst hE0
        go_wp2
        go_roundw
        case rel =>
          refine ⟨k + 1, n2, H2, by omega, by simp, N3.out.1, N3.out.2.1, ?_, ?_⟩
          · rw [RS.out]
          · rw [RS.out]; exact N3.out.2.2
        case measure => simp [intOf]; omega
      · go_wp2
        go_ret
        have e : rD (fun i => H i n) x.ds = (E, upS LL d.sd (dL LL d)) := by
          rw [← RS.out]
          conv => lhs; rw [← List.take_append_drop (k + 1) x.ds]
          exact rD_stop _ _ _ (by rw [RS.out]; exact hE0)
        unfold DoDone
        rw [e, if_neg hE0]
        exact ⟨rfl, n2, H2, N3.out.1, N3.out.2.1, N3.out.2.2.conv (fun _ _ => rfl) (by omega)⟩
    · obtain rfl : k = x.ds.length := by omega
      have PRX := hide (And.intro pr (And.intro kp (And.intro h0 px)))
      clear pr kp px h0
      rw [List.take_length] at PRX
      go_wp2
      go_ret
      obtain ⟨q1, q2, q3, q4⟩ := PRX.out
      unfold DoDone
      rw [q3, if_pos rfl]
      exact ⟨rfl, n', H', q1, q2, q4⟩
end Go.Proofs.Ytncnilplmklccaa
