/- Acts in memory (sponsionlaw12.Act); the law's deeds. -/
import Derived.Test.YtnjijnphjiiceaaStgRef2
namespace Go.Proofs.Ytnjijnphjiiceaa
set_option linter.unusedSimpArgs false
set_option linter.unusedVariables false
set_option linter.unusedSectionVars false
open Go.RowKit Go.Lib
attribute [local go_sem] setCell_drewN alloc_drewN

/-- An act. -/
structure AcS where
  k : Int
  K : Int
  V : Int
  N : Int
def AcS.Ok (x : AcS) : Prop := (0 ≤ x.k ∧ x.k ≤ 255) ∧ (Lit.int .i64 x.K).wf = true ∧ (Lit.int .i64 x.V).wf = true ∧ (Lit.int .i64 x.N).wf = true
/-- Acts, at an address. -/
def ActsS (w : World) (ao : Option Addr) (xs : List AcS) : Prop :=
  xs = [] ∨ ∃ b off, ao = some ⟨b, off, none⟩ ∧ b < w.heap.size ∧ ∀ (j : Nat) x, xs[j]? = some x → w.cell? ⟨b, off + j * 4, none⟩ = some (.int .u8 x.k) ∧ w.cell? ⟨b, off + j * 4 + 1, none⟩ = some (.int .i64 x.K) ∧ w.cell? ⟨b, off + j * 4 + 2, none⟩ = some (.int .i64 x.V) ∧ w.cell? ⟨b, off + j * 4 + 3, none⟩ = some (.int .i64 x.N)
theorem ActsS.of {w w' : World} {ao : Option Addr} {xs : List AcS} (h : ActsS w ao xs) (hs : w.heap.size ≤ w'.heap.size) (hb : ∀ b, ao.map (·.block) = some b → b < w.heap.size → w'.heap[b]? = w.heap[b]?) : ActsS w' ao xs := by
  rcases h with h | ⟨b, off, rfl, hl, hc⟩
  · exact .inl h
  · have e : ∀ o, w'.cell? ⟨b, o, none⟩ = w.cell? ⟨b, o, none⟩ := fun o => World.cell?_of_block (w := w) (a := ⟨b, o, none⟩) (hb b rfl hl)
    refine .inr ⟨b, off, rfl, Nat.lt_of_lt_of_le hl hs, fun j x hx => ?_⟩
    obtain ⟨h1, h2, h3, h4⟩ := hc j x hx
    exact ⟨(e _).trans h1, (e _).trans h2, (e _).trans h3, (e _).trans h4⟩
theorem ActsS.below {w w' : World} {ao : Option Addr} {xs : List AcS} (h : ActsS w ao xs) (hb : Below w.heap.size w w') : ActsS w' ao xs := h.of hb.size fun b _ hl => hb.block b hl
theorem ActsS.mv {w w' : World} {S S' : Nat → Prop} {ao : Option Addr} {xs : List AcS} (h : ActsS w ao xs) (m : Mv S S' w w') (hn : ∀ b, xs ≠ [] → ao.map (·.block) = some b → ¬ S b) : ActsS w' ao xs :=
  if h0 : xs = [] then .inl h0 else h.of m.size fun b hb hl => m.block b hl (hn b h0 hb)
theorem ActsS.get {w : World} {ao : Option Addr} {xs : List AcS} (h : ActsS w ao xs) {j : Nat} {x : AcS} (hx : xs[j]? = some x) :
    ∃ b off, ao = some ⟨b, off, none⟩ ∧ b < w.heap.size ∧ w.cell? ⟨b, off + j * 4, none⟩ = some (.int .u8 x.k) ∧ w.cell? ⟨b, off + j * 4 + 1, none⟩ = some (.int .i64 x.K) ∧ w.cell? ⟨b, off + j * 4 + 2, none⟩ = some (.int .i64 x.V) ∧ w.cell? ⟨b, off + j * 4 + 3, none⟩ = some (.int .i64 x.N) := by
  rcases h with rfl | ⟨b, off, e, hl, hc⟩
  · simp at hx
  · exact ⟨b, off, e, hl, hc j x hx⟩
/-- What an act does to a row. -/
def actL (L : Kvs) (x : AcS) : Kvs := if x.k % 3 = 0 then delL x.K L else putL kyInt x.K x.V L
def actsL (xs : List AcS) (L : Kvs) : Kvs := xs.foldl actL L
theorem actL_len (L : Kvs) (x : AcS) : (actL L x).length ≤ L.length + 1 := by
  unfold actL
  split
  · have := delL_length x.K L; omega
  · exact putL_length kyInt
theorem actsL_len : ∀ (xs : List AcS) (L : Kvs), (actsL xs L).length ≤ L.length + xs.length
  | [], L => by simp [actsL]
  | x :: r, L => by
    have h1 := actsL_len r (actL L x)
    have h2 := actL_len L x
    unfold actsL at *
    rw [List.foldl_cons, List.length_cons]
    omega
theorem actsL_snoc (xs : List AcS) (x : AcS) (L : Kvs) : actsL (xs ++ [x]) L = actL (actsL xs L) x := by simp [actsL]
/-- How many deeds acts are. -/
def cnt1 (L : Kvs) (x : AcS) : Nat := if x.k % 3 = 0 then (if (getL x.K L).isSome then 1 else 0) else 1
def cntA : List AcS → Kvs → Nat
  | [], _ => 0
  | x :: r, L => cnt1 L x + cntA r (actL L x)
theorem cntA_snoc (x : AcS) : ∀ (xs : List AcS) (L : Kvs), cntA (xs ++ [x]) L = cntA xs L + cnt1 (actsL xs L) x
  | [], L => by simp [cntA, actsL]
  | y :: r, L => by
    show cnt1 L y + cntA (r ++ [x]) (actL L y) = _
    rw [cntA_snoc x r]
    show _ = cnt1 L y + cntA r (actL L y) + cnt1 (actsL r (actL L y)) x
    omega
theorem cntA_le : ∀ (xs : List AcS) (L : Kvs), cntA xs L ≤ xs.length
  | [], _ => Nat.le_refl _
  | x :: r, L => by
    have h1 := cntA_le r (actL L x)
    have h2 : cnt1 L x ≤ 1 := by unfold cnt1; split <;> (try split) <;> omega
    simp only [cntA, List.length_cons]
    omega
set_option maxHeartbeats 8000000 in
theorem deeds_any {w : World} {S Z : Nat → Prop} {bj : Nat} {A : List Nat} {mb : Nat → Nat} {X : Nat → Kvs} {ds : Deeds} (hs : St w S Z bj A mb X ds) {a : Nat} (ha : a ∈ A) {ao : Option Addr} {cap : Nat} {xs : List AcS} (hacts : ActsS w ao xs) (hok : ∀ x ∈ xs, x.Ok) (hn : ∀ b, xs ≠ [] → ao.map (·.block) = some b → ¬ S b)
    (hlen : xs.length ≤ 1000) (hX : (X a).length ≤ 1000) (hds : ds.length ≤ 10000) (hcap : xs.length ≤ cap) :
    Calls Try.prog 19 #[.pointer (some ⟨a, 0, none⟩), .slice ao xs.length cap] w fun e w' => e = .returned (.tuple #[]) ∧ ∃ S' Z' ds', St w' S' Z' bj A mb (upX X a (actsL xs (X a))) (ds ++ ds') ∧ Mv S S' w w' ∧ undoN kyInt ds' (upX X a (actsL xs (X a))) = X ∧ ds'.length = cntA xs (X a) := by
  have HS := hide hs
  have HA := hide hacts
  have HN := hide hn
  have HOK := hide hok
  have hl1 : (xs.length : Int) ≤ 1000 := by omega
  have hSrt := hide hs.srt
  clear hs hacts hn hok
  go_enter Try.func19, Try.ntmps19
  go_wp2
  go_loopw [8] (fun i wr => ∃ m : Nat, m ≤ xs.length ∧ i = .int .i64 m ∧ ∃ S' Z' ds', St wr S' Z' bj A mb (upX X a (actsL (xs.take m) (X a))) (ds ++ ds') ∧ Mv S S' w wr ∧ undoN kyInt ds' (upX X a (actsL (xs.take m) (X a))) = X ∧ ds'.length = cntA (xs.take m) (X a)) (fun i _ => xs.length - (intOf i).toNat)
  case atStart => exact ⟨0, Nat.zero_le _, rfl, S, Z, [], by simpa [actsL, upX_self] using HS.out, Mv.refl _ _, by simp [actsL, upX_self, undoN], rfl⟩
  case round =>
    obtain ⟨m, hm, rfl, S1, Z1, ds1, h1, h2, h3, h4⟩ := hrel
    by_cases hlt : m < xs.length
    · have hx : xs[m]? = some xs[m] := List.getElem?_eq_getElem hlt
      have htk : xs.take (m + 1) = xs.take m ++ [xs[m]] := by rw [List.take_succ_eq_append_getElem hlt]
      have hxo := HOK.out xs[m] (List.getElem_mem hlt)
      have hal := actsL_len (xs.take m) (X a)
      rw [List.length_take] at hal
      obtain ⟨b, off, rfl, hbl, c0, c1, c2, c3⟩ := (HA.out.mv h2 HN.out).get hx
      generalize xs[m] = x at *
      obtain ⟨xk, xK, xV, xN⟩ := x
      obtain ⟨⟨k0, k1⟩, wK, wV, wN⟩ := hxo
      simp only at c0 c1 c2 c3 k0 k1 wK wV wN
      obtain ⟨L, hL⟩ : ∃ L, actsL (xs.take m) (X a) = L := ⟨_, rfl⟩
      have hcnt : cntA (xs.take (m + 1)) (X a) = cntA (xs.take m) (X a) + cnt1 L ⟨xk, xK, xV, xN⟩ := by rw [htk, cntA_snoc, hL]
      have hle := cntA_le (xs.take m) (X a)
      rw [List.length_take] at hle
      have hnext : actsL (xs.take (m + 1)) (X a) = actL L ⟨xk, xK, xV, xN⟩ := by rw [htk, actsL_snoc, hL]
      rw [hL] at h1 h3 hal
      have hup : (upX X a L) a = L := upX_same _ _ _
      have hLs : Srt kyInt L := by have := h1.srt a; rwa [hup] at this
      have H1 := hide (h1.below (bAl (o := .cells #[.int .u8 xk, .int .i64 xK, .int .i64 xV, .int .i64 xN] 36) (bMe wr)))
      have H2 := hide (h2.on (bAl (o := .cells #[.int .u8 xk, .int .i64 xK, .int .i64 xV, .int .i64 xN] 36) (bMe wr)))
      have H3 := hide h3
      have H4 := hide h4
      have HNX := hide hnext
      have HC := hide hcnt
      clear hcnt
      have hdl : (ds ++ ds1).length ≤ 100000 := by rw [List.length_append, h4]; omega
      have hng : b ≠ wr.heap.size := by omega
      have hll : L.length ≤ 100000 := by omega
      by_cases h0 : xk % 3 = 0
      · have hact : actL L ⟨xk, xK, xV, xN⟩ = delL xK L := by unfold actL; rw [if_pos h0]
        cases hg : getL xK L with
        | none =>
          have HG := hide hg
          have HD := hide (dropNone_any H1.out ha wK (by rw [hup]; exact hg))
          have HE : Hid (actL L ⟨xk, xK, xV, xN⟩ = L) := by show _ = _; rw [hact, delL_none hg]
          clear h1 h2 h3 h4 hx htk hL hnext hup hLs hact hg hal
          go_wp2_with (go_at_call 12; refine HD.out.mono ?_; clear HD; rintro e w3 ⟨rfl, hb⟩)
          go_roundw
          case rel => exact ⟨m + 1, by omega, by simp, S1, Z1, ds1, by rw [HNX.out, HE.out]; exact H1.out.below hb, H2.out.on hb, by rw [HNX.out, HE.out]; exact H3.out, by rw [HC.out, H4.out]; simp [cnt1, h0, HG.out]⟩
          case measure => simp [intOf]; omega
        | some v =>
          have HG := hide hg
          have HNZ := hnext.trans hact
          have HE : Hid (upX X a (actsL (xs.take (m + 1)) (X a)) = upX (upX X a L) a (delL xK ((upX X a L) a))) := by show _ = _; rw [HNZ, upX_up, hup]
          have HU : Hid (undo1 kyInt ⟨a, xK, some v⟩ (upX (upX X a L) a (delL xK ((upX X a L) a))) = upX X a L) := undo_del kyInt (upX X a L) a xK (by rw [hup]; exact hLs) (by rw [hup]; exact hg)
          have HD := hide (dropSome_any H1.out ha wK (by rw [hup]; exact hg) hdl)
          clear h1 h2 h3 h4 hx htk hL hnext HNZ
          go_wp2_with (go_at_call 12; refine HD.out.mono ?_; clear HD; rintro e w3 ⟨rfl, S2, Z2, q1, q2⟩)
          go_roundw
          case rel => exact ⟨m + 1, by omega, by simp, S2, Z2, ds1 ++ [⟨a, xK, some v⟩], by rw [HE.out, ← List.append_assoc]; exact q1, H2.out.trans q2, by rw [HE.out, undoN_snoc, HU.out]; exact H3.out, by rw [HC.out, List.length_append, H4.out]; simp [cnt1, h0, HG.out]⟩
          case measure => simp [intOf]; omega
      · have hact : actL L ⟨xk, xK, xV, xN⟩ = putL kyInt xK xV L := by unfold actL; rw [if_neg h0]
        have HNZ := hnext.trans hact
        have HE : Hid (upX X a (actsL (xs.take (m + 1)) (X a)) = upX (upX X a L) a (putL kyInt xK xV ((upX X a L) a))) := by show _ = _; rw [HNZ, upX_up, hup]
        have HU : Hid (undo1 kyInt ⟨a, xK, getL xK ((upX X a L) a)⟩ (upX (upX X a L) a (putL kyInt xK xV ((upX X a L) a))) = upX X a L) := undo_put kyInt (upX X a L) a xK xV (by rw [hup]; exact hLs)
        have HD := hide (set_any (v := xV) H1.out ha wK (by rw [hup]; omega) hdl)
        clear h1 h2 h3 h4 hx htk hL hnext HNZ
        go_wp2_with (go_at_call 10; refine HD.out.mono ?_; clear HD; rintro e w3 ⟨rfl, S2, Z2, q1, q2⟩)
        go_roundw
        case rel => exact ⟨m + 1, by omega, by simp, S2, Z2, ds1 ++ [⟨a, xK, getL xK ((upX X a L) a)⟩], by rw [HE.out, ← List.append_assoc]; exact q1, H2.out.trans q2, by rw [HE.out, undoN_snoc, HU.out]; exact H3.out, by rw [HC.out, List.length_append, H4.out]; simp [cnt1, h0]⟩
        case measure => simp [intOf]; omega
    · obtain rfl : m = xs.length := by omega
      rw [List.take_length] at h1 h3 h4
      have H1 := hide h1
      have H2 := hide h2
      have H3 := hide h3
      clear h1 h2 h3
      go_wp2
      go_end0
      exact ⟨rfl, S1, Z1, ds1, H1.out, H2.out, H3.out, h4⟩
end Go.Proofs.Ytnjijnphjiiceaa
