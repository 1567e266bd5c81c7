/- Contracts of pack.Reader's methods over this translation. -/
import Derived.Test.YtajkdbpojeaflaaPackWriter
import Derived.Test.YtajkdbpojeaflaaBar
import Derived.Test.YtajkdbpojeaflaaByteMath
import Derived.Laws.CopyOwn
namespace Go.Proofs.Ytajkdbpojeaflaa
open Go.RowKit Go.Lib
attribute [local go_sem] setCell_drewN alloc_drewN

/-- The box g holds a reader: what is left (in block rb, if anywhere), and its error. -/
structure RdrI (w : World) (g : Nat) (rb : Option Nat) (ao : Option Addr) (cap : Nat) (l : List Int) (e : Int) : Prop where
  lt : g < w.heap.size
  c0 : w.cell? ⟨g, 0, none⟩ = some (.slice ao l.length cap)
  c1 : w.cell? ⟨g, 1, none⟩ = some (.int .i64 e)
  fr : ∀ o, w.frozen? ⟨g, o, none⟩ = false
  room : l.length ≤ cap ∧ cap ≤ maxLen
  nil : ao = none → cap = 0
  here : At w ao l
  row : ∀ k, blk ao = some k → rb = some k
  rlt : ∀ k, rb = some k → k < w.heap.size
  rne : rb ≠ some g
  err : e ≠ 0 → l = []
def Rdr (w : World) (g : Nat) (rb : Option Nat) (l : List Int) (e : Int) : Prop := ∃ ao cap, RdrI w g rb ao cap l e
theorem At.barB {w w' : World} {g : Nat} {ao : Option Addr} {l : List Int} (h : At w ao l) (hb : Bar g w w') (hne : blk ao ≠ some g) : At w' ao l :=
  h.of hb.size (fun a e hl => hb.block _ hl (fun e' => hne (by rw [e]; simp [blk, e'])))
theorem RdrI.off {w : World} {g cap : Nat} {rb : Option Nat} {ao : Option Addr} {l : List Int} {e : Int} (h : RdrI w g rb ao cap l e) : blk ao ≠ some g := fun hk => h.rne (h.row g hk)
theorem RdrI.of {w w' : World} {g cap : Nat} {rb : Option Nat} {ao : Option Addr} {l : List Int} {e : Int} (h : RdrI w g rb ao cap l e) (hs : w.heap.size ≤ w'.heap.size) (h1 : w'.heap[g]? = w.heap[g]?) (h2 : ∀ k, rb = some k → w'.heap[k]? = w.heap[k]?) : RdrI w' g rb ao cap l e :=
  ⟨Nat.lt_of_lt_of_le h.lt hs, (World.cell?_of_block (w := w) (a := ⟨g, 0, none⟩) h1).trans h.c0, (World.cell?_of_block (w := w) (a := ⟨g, 1, none⟩) h1).trans h.c1, fun o => (World.frozen?_of_block (w := w) (a := ⟨g, o, none⟩) h1).trans (h.fr o), h.room, h.nil, h.here.of hs (fun a e _ => h2 _ (h.row _ (by rw [e]; rfl))), h.row, fun k hk => Nat.lt_of_lt_of_le (h.rlt k hk) hs, h.rne, h.err⟩
theorem Rdr.after {w w1 w' : World} {g : Nat} {rb : Option Nat} {l : List Int} {e : Int} (h : Rdr w g rb l e) (hb : Below w1.heap.size w1 w') (he : w1.heap = w.heap) : Rdr w' g rb l e := by
  obtain ⟨ao, cap, h⟩ := h
  have hbl : ∀ k, k < w.heap.size → w'.heap[k]? = w.heap[k]? := fun k hk => by rw [hb.block k (by rw [he]; exact hk), he]
  exact ⟨ao, cap, h.of (by rw [← he]; exact hb.size) (hbl g h.lt) (fun k hk => hbl k (h.rlt k hk))⟩
theorem Rdr.past {w : World} {g : Nat} {rb : Option Nat} {l : List Int} {e : Int} (h : Rdr w g rb l e) (o : Obj) : Rdr (w.alloc o) g rb l e := h.after (bAl (bMe w)) rfl
theorem Rdr.other {w : World} {g : Nat} {rb : Option Nat} {l : List Int} {e : Int} (h : Rdr w g rb l e) {p : Addr} (h1 : g ≠ p.block) (h2 : rb ≠ some p.block) (v : Value) : Rdr (w.setCell p v) g rb l e := by
  obtain ⟨ao, cap, h⟩ := h
  exact ⟨ao, cap, h.of (by simp [World.setCell]) (Below.heap_setCell _ _ _ _ h1) (fun k hk => Below.heap_setCell _ _ _ _ (fun e => h2 (by rw [← e]; exact hk)))⟩
theorem Rdr.lt {w : World} {g : Nat} {rb : Option Nat} {l : List Int} {e : Int} (h : Rdr w g rb l e) : g < w.heap.size ∧ (∀ k, rb = some k → k < w.heap.size) ∧ rb ≠ some g ∧ (e ≠ 0 → l = []) := by
  obtain ⟨ao, cap, h⟩ := h
  exact ⟨h.lt, h.rlt, h.rne, h.err⟩
theorem RdrI.new (w : World) (ao : Option Addr) (cap : Nat) (l : List Int) (t : TypeId) (hc : l.length ≤ cap ∧ cap ≤ maxLen) (hn : ao = none → cap = 0) (ha : At w ao l) (ho : ∀ k, blk ao = some k → k < w.heap.size) :
    RdrI (w.alloc (.cells #[.slice ao l.length cap, .int .i64 0] t)) w.heap.size (blk ao) ao cap l 0 :=
  ⟨by simp, by simp [go_sem], by simp [go_sem], fun o => by simp [go_sem], hc, hn, ha.below (bAl (bMe w)), fun _ h => h, fun k hk => by have := ho k hk; simp; omega, fun e => by have := ho _ e; omega, fun h => absurd rfl h⟩
/-- What is left is another part of it. -/
theorem RdrI.put {w : World} {g cap cap' : Nat} {rb : Option Nat} {ao ao' : Option Addr} {l l' : List Int} {e : Int} (h : RdrI w g rb ao cap l e) (hc : l'.length ≤ cap' ∧ cap' ≤ maxLen) (hn : ao' = none → cap' = 0) (ha : At w ao' l') (ho : ∀ k, blk ao' = some k → rb = some k) (he : e ≠ 0 → l' = []) {n : Nat} (hl : n = l'.length) :
    RdrI (w.setCell ⟨g, 0, none⟩ (.slice ao' n cap')) g rb ao' cap' l' e := by
  subst hl
  have c0 := h.c0
  have c1 := h.c1
  exact ⟨by simpa [World.setCell] using h.lt, by simp [go_sem, c0], by simp [go_sem, c1], fun o => by simp [go_sem, h.fr], hc, hn, ha.barB ((Bar.refl g w).set 0 _) (fun hk => h.rne (ho g hk)), ho, fun k hk => by simpa [World.setCell] using h.rlt k hk, h.rne, he⟩
/-- A reader fails. -/
theorem RdrI.fell {w : World} {g cap : Nat} {rb : Option Nat} {ao : Option Addr} {l : List Int} {e : Int} (h : RdrI w g rb ao cap l e) (x : Int) :
    Rdr ((w.setCell ⟨g, 1, none⟩ (.int .i64 x)).setCell ⟨g, 0, none⟩ (.slice none 0 0)) g rb [] x := by
  have c0 := h.c0
  have c1 := h.c1
  exact ⟨none, 0, by simpa [World.setCell] using h.lt, by simp [go_sem, c0], by simp [go_sem, c1], fun o => by simp [go_sem, h.fr], by simp [maxLen], fun _ => rfl, At.nil _ _, fun k hk => by simp [blk] at hk, fun k hk => by simpa [World.setCell] using h.rlt k hk, h.rne, fun _ => rfl⟩
/-- What becomes of a reader that is told to fail. -/
def Fell (w' : World) (g : Nat) (rb : Option Nat) (l : List Int) (e x : Int) : Prop := if x = 0 ∨ e ≠ 0 then Rdr w' g rb l e else Rdr w' g rb [] x
/-- The error of one that finds too few bytes. -/
def errOf (e : Int) : Int := if e = 0 then 4 else e
/-- What is told at the end. -/
def endOf (l : List Int) (e : Int) : Int := if 0 < l.length then 5 else e
theorem fail_any {w : World} {g : Nat} {rb : Option Nat} {l : List Int} {e : Int} (h : Rdr w g rb l e) (x : Int) :
    Calls Try.prog 47 #[.pointer (some ⟨g, 0, none⟩), .int .i64 x] w fun r w' => r = .returned (.tuple #[]) ∧ Fell w' g rb l e x ∧ Bar g w w' := by
  obtain ⟨ao, cap, h⟩ := h
  have H := hide h
  have c0 := h.c0
  have c1 := h.c1
  have f0 := h.fr 0
  have f1 := h.fr 1
  clear h
  by_cases hx : x = 0
  · subst hx
    go_enter Try.func47, Try.ntmps47
    go_wp2
    refine bodyPost_ret (v := .tuple #[]) (results_none Try.results47 _ _ _) rfl ?_
    exact ⟨rfl, by unfold Fell; rw [if_pos (.inl rfl)]; exact ⟨_, _, H.out⟩, Bar.refl _ _⟩
  · by_cases he : e = 0
    · subst he
      go_enter Try.func47, Try.ntmps47
      go_wp2
      go_end0
      exact ⟨rfl, by unfold Fell; rw [if_neg (by simp [hx])]; exact H.out.fell x, ((Bar.refl g w).set 1 _).set 0 _⟩
    · have he' : (e != 0) = true := by simpa using he
      go_enter Try.func47, Try.ntmps47
      go_wp2
      refine bodyPost_ret (v := .tuple #[]) (results_none Try.results47 _ _ _) rfl ?_
      exact ⟨rfl, by unfold Fell; rw [if_pos (.inr he)]; exact ⟨_, _, H.out⟩, Bar.refl _ _⟩
/-- The first bytes, and the others. -/
theorem cut_head (ao : Option Addr) (L cap n : Nat) (hn : n ≤ L) (hc : L ≤ cap) (w : World) : (Instr.sliceAt 24 (.slice ao L cap) none (some (.int .i64 n)) none).run Try.prog w = .ok (.slice (if cap = 0 then ao else ao.map (·.add 0)) n cap) w := by
  have hs : (sizeOf (Try.prog.elem 24)).run Try.prog w = .ok 1 w := by kernel_rfl
  rw [run_sliceAt_slice w _ _ _ _ _ (by kernel_rfl), run_slice_h w _ ao L cap (by kernel_rfl) .i64 n (by omega) (by omega), hs]
  simp [Result.andThen, sliced]
theorem cut_tail (ao : Option Addr) (L cap n : Nat) (hn : n ≤ L) (w : World) : (Instr.sliceAt 24 (.slice ao L cap) (some (.int .i64 n)) none none).run Try.prog w = .ok (.slice (if cap = n then ao else ao.map (·.add n)) (L - n) (cap - n)) w := by
  have hs : (sizeOf (Try.prog.elem 24)).run Try.prog w = .ok 1 w := by kernel_rfl
  rw [run_sliceAt_slice w _ _ _ _ _ (by kernel_rfl), run_slice_l w _ ao L cap (by kernel_rfl) .i64 n (by omega) (by omega), hs]
  simp [Result.andThen, sliced]
theorem blk_add (ao : Option Addr) (n : Nat) (c : Prop) [Decidable c] : blk (if c then ao else ao.map (·.add n)) = blk ao := by
  split
  · rfl
  · cases ao with
    | none => rfl
    | some a => simp [blk, Addr.add]; split <;> rfl
theorem at_head {w : World} {ao : Option Addr} {l : List Int} (h : At w ao l) (cap n : Nat) : At w (if cap = 0 then ao else ao.map (·.add 0)) (l.take n) := by
  split
  · exact h.take n
  · rcases h with rfl | ⟨b, off, rfl, r⟩
    · exact .inl (by simp)
    · rw [Option.map_some, Addr.add_mid, Nat.add_zero]
      exact At.take (.inr ⟨b, off, rfl, r⟩) n
theorem at_tail {w : World} {ao : Option Addr} {l : List Int} (h : At w ao l) {cap : Nat} (hc : l.length ≤ cap) (n : Nat) : At w (if cap = n then ao else ao.map (·.add n)) (l.drop n) := by
  split
  · exact .inl (by rw [List.drop_eq_nil_iff]; omega)
  · rcases h with rfl | ⟨b, off, rfl, r⟩
    · exact .inl (by simp)
    · rw [Option.map_some, Addr.add_mid]
      exact At.drop (.inr ⟨b, off, rfl, r⟩) n
/-- So many bytes were taken. -/
def Took (w w' : World) (g n : Nat) (rb : Option Nat) (l : List Int) (e : Int) (r : Ending) : Prop := ∃ ao1 cap1, r = .returned (.slice ao1 n cap1) ∧ At w' ao1 (l.take n) ∧ (∀ k, blk ao1 = some k → rb = some k) ∧ (ao1 = none → cap1 = 0) ∧ n ≤ cap1 ∧ Rdr w' g rb (l.drop n) e ∧ Bar g w w'
set_option maxHeartbeats 4000000 in
theorem take_ok {w : World} {g : Nat} {rb : Option Nat} {l : List Int} {e : Int} (h : Rdr w g rb l e) (n : Nat) (hn : n ≤ l.length) :
    Calls Try.prog 55 #[.pointer (some ⟨g, 0, none⟩), .int .i64 n] w fun r w' => Took w w' g n rb l e r := by
  obtain ⟨ao, cap, h⟩ := h
  have H := hide h
  have c0 := h.c0
  have f0 := h.fr 0
  have hcap := h.room
  clear h
  have hni : ¬ (l.length : Int) < (n : Int) := by omega
  have s1 := cut_head ao l.length cap n hn hcap.1
  have s2 := cut_tail ao l.length cap n hn
  have A1 := hide (at_head H.out.here cap n)
  have A2 := hide (at_tail H.out.here hcap.1 n)
  have O1 := hide (blk_add ao 0 (cap = 0))
  have O2 := hide (blk_add ao n (cap = n))
  have N1 : Hid ((if cap = 0 then ao else ao.map (·.add 0)) = none → cap = 0) := by
    intro e; split at e
    · assumption
    · cases ao with
      | none => exact H.out.nil rfl
      | some a => simp at e
  have N2 : Hid ((if cap = n then ao else ao.map (·.add n)) = none → cap - n = 0) := by
    intro e; split at e
    · omega
    · cases ao with
      | none => have := H.out.nil rfl; omega
      | some a => simp at e
  generalize (if cap = 0 then ao else ao.map (·.add 0)) = ao1 at *
  generalize (if cap = n then ao else ao.map (·.add n)) = ao2 at *
  unfold maxLen at hcap
  obtain ⟨hc1, hc2⟩ := hcap
  go_enter Try.func55, Try.ntmps55
  go_wp2
  go_ret
  have h1 : ∀ k, blk ao1 = some k → rb = some k := by rw [O1.out]; exact H.out.row
  have h2 : ∀ k, blk ao2 = some k → rb = some k := by rw [O2.out]; exact H.out.row
  refine ⟨ao1, cap, rfl, A1.out.barB ((Bar.refl g w).set 0 _) (fun hk => H.out.rne (h1 g hk)), h1, N1.out, by omega, ⟨ao2, cap - n, H.out.put (by unfold maxLen; simp; omega) N2.out A2.out h2 (fun he => by rw [H.out.err he]; simp) (by simp)⟩, (Bar.refl g w).set 0 _⟩
set_option maxHeartbeats 4000000 in
theorem take_short {w : World} {g : Nat} {rb : Option Nat} {l : List Int} {e : Int} (h : Rdr w g rb l e) (n : Nat) (hn : l.length < n) :
    Calls Try.prog 55 #[.pointer (some ⟨g, 0, none⟩), .int .i64 n] w fun r w' => r = .returned (.slice none 0 0) ∧ Rdr w' g rb [] (errOf e) ∧ Bar g w w' := by
  obtain ⟨ao, cap, h⟩ := h
  have H := hide h
  have c0 := h.c0
  clear h
  have hni : (l.length : Int) < (n : Int) := by omega
  go_enter Try.func55, Try.ntmps55
  go_wp2_with fail
  refine (fail_any ⟨_, _, H.out⟩ 4).mono ?_
  rintro r w1 ⟨rfl, hr, hb⟩
  have R : Hid (Rdr w1 g rb [] (errOf e) ∧ Bar g w w1) := by
    refine ⟨?_, hb⟩
    unfold Fell at hr
    unfold errOf
    by_cases he : e = 0
    · subst he
      rw [if_neg (by simp)] at hr
      rw [if_pos rfl]; exact hr
    · rw [if_pos (.inr he), H.out.err he] at hr
      rw [if_neg he]; exact hr
  clear hr hb
  go_wp2
  go_ret
  exact ⟨rfl, R.out.1, R.out.2⟩
theorem left_any {w : World} {g : Nat} {rb : Option Nat} {l : List Int} {e : Int} (h : Rdr w g rb l e) :
    Calls Try.prog 25 #[.pointer (some ⟨g, 0, none⟩)] w fun r w' => r = .returned (.int .i64 l.length) ∧ w' = w := by
  obtain ⟨ao, cap, h⟩ := h
  have c0 := h.c0
  clear h
  go_enter Try.func25, Try.ntmps25
  go_wp2
  go_ret
  exact ⟨rfl, rfl⟩
theorem err_any {w : World} {g : Nat} {rb : Option Nat} {l : List Int} {e : Int} (h : Rdr w g rb l e) :
    Calls Try.prog 27 #[.pointer (some ⟨g, 0, none⟩)] w fun r w' => r = .returned (.int .i64 e) ∧ w' = w := by
  obtain ⟨ao, cap, h⟩ := h
  have c1 := h.c1
  clear h
  go_enter Try.func27, Try.ntmps27
  go_wp2
  go_ret
  exact ⟨rfl, rfl⟩
/-- What bytes stand for, the highest first. -/
def bval (l : List Int) : Int := l.foldl (fun x b => x * 256 + b) 0
theorem bval_snoc (l : List Int) (b : Int) : bval (l ++ [b]) = bval l * 256 + b := by unfold bval; rw [List.foldl_append]; rfl
theorem take_snoc' (l : List Int) (k : Nat) (h : k < l.length) : l.take (k + 1) = l.take k ++ [l.getD k 0] := by
  rw [List.take_succ_eq_append_getElem h]; simp [h]
theorem bval_bd {l : List Int} (h : Byt l) (k : Nat) (hk : k ≤ l.length) : 0 ≤ bval (l.take k) ∧ bval (l.take k) < 256 ^ k := by
  induction k with
  | zero => simp [bval]
  | succ k ih =>
    have := ih (by omega)
    rw [take_snoc' l k (by omega), bval_snoc, Int.pow_succ]
    have := h.get k
    omega
theorem or_byte8 (x y : Int) (h0 : 0 ≤ x) (h1 : x < 72057594037927936) (y0 : 0 ≤ y) (y1 : y < 256) : bits .or .u64 (IntKind.u64.wrap (x * 256)) y = x * 256 + y := by
  have e : IntKind.u64.wrap (x * 256) = x * 256 := by rw [IntKind.wrap_u64]; omega
  obtain ⟨x, rfl⟩ := Int.eq_ofNat_of_zero_le h0
  obtain ⟨y, rfl⟩ := Int.eq_ofNat_of_zero_le y0
  rw [e, show ((x : Int) * 256) = ((x * 256 : Nat) : Int) by simp, u64_or_nat (x * 256) y (by omega) (by omega), Nat.or_comm, show x * 256 = x * 2 ^ 8 by rfl, or_apart y x 8 (by omega)]
  simp; omega
/-- A number was read. -/
def Read8 (w w' : World) (g n : Nat) (rb : Option Nat) (l : List Int) (e v : Int) : Prop :=
  (n ≤ l.length ∧ v = bval (l.take n) ∧ Rdr w' g rb (l.drop n) e ∨ l.length < n ∧ v = 0 ∧ Rdr w' g rb [] (errOf e)) ∧ Bar g w w'
set_option maxHeartbeats 4000000 in
theorem rnumber_any {w : World} {g : Nat} {rb : Option Nat} {l : List Int} {e : Int} (h : Rdr w g rb l e) (hl : Byt l) (n : Nat) (hn : n ≤ 8) :
    Calls Try.prog 54 #[.pointer (some ⟨g, 0, none⟩), .int .i64 n] w fun r w' => ∃ v, r = .returned (.int .u64 v) ∧ Read8 w w' g n rb l e v := by
  have H := hide h; have HL := hide hl
  clear h hl
  by_cases hlen : n ≤ l.length
  · go_enter Try.func54, Try.ntmps54
    go_wp2_with fail
    refine (take_ok H.out n hlen).mono ?_
    rintro r w1 ⟨ao1, cap1, rfl, ha, hoff, hnil, hc1, hr, hb⟩
    have A := hide ha; have R : Hid (Rdr w1 g rb (l.drop n) e ∧ Bar g w w1) := ⟨hr, hb⟩
    clear ha hoff hnil hr hb
    go_wp2
    go_loop [5, 12] (fun t5 t12 => ∃ k : Nat, k ≤ n ∧ t12 = .int .i64 k ∧ t5 = .int .u64 (bval (l.take k))) (fun _ t => n - (intOf t).toNat)
    case atStart => exact ⟨0, by omega, rfl, rfl⟩
    case round =>
      obtain ⟨k, hk, rfl, rfl⟩ := hrel
      by_cases hlt : k < n
      · have hki : (k : Int) < (n : Int) := by omega
        have hlt8 : (l.take n).length = n := by simp; omega
        rcases A.out with hnil | ⟨b, off, rfl, hbl, hc⟩
        · rw [hnil] at hlt8; simp at hlt8; omega
        have hck := hc k (by omega)
        have hg : (l.take n).getD k 0 = l.getD k 0 := by simp [hlt]
        rw [hg] at hck
        obtain ⟨b0, b1⟩ := HL.out.get k
        obtain ⟨v0, v1⟩ := bval_bd HL.out k (by omega)
        have HS : Hid (bval (l.take (k + 1)) = bval (l.take k) * 256 + l.getD k 0) := by rw [take_snoc' l k (by omega), bval_snoc]; exact rfl
        have p7 : (256 : Int) ^ k ≤ 72057594037927936 := by
          rcases (by omega : k = 0 ∨ k = 1 ∨ k = 2 ∨ k = 3 ∨ k = 4 ∨ k = 5 ∨ k = 6 ∨ k = 7) with rfl | rfl | rfl | rfl | rfl | rfl | rfl | rfl <;> decide
        have hor := or_byte8 (bval (l.take k)) (l.getD k 0) v0 (by omega) b0 b1
        clear hc hlt8 hg p7 v1
        generalize l.getD k 0 = y at *
        generalize bval (l.take k) = V at *
        go_wp2
        go_round
        case rel => exact ⟨k + 1, by omega, by go_num, by rw [HS.out, ← hor]⟩
        case measure => simp [intOf]; omega
      · obtain rfl : k = n := by omega
        go_wp2
        go_ret
        exact ⟨_, rfl, .inl ⟨hlen, rfl, R.out.1⟩, R.out.2⟩
  · go_enter Try.func54, Try.ntmps54
    go_wp2_with fail
    refine (take_short H.out n (by omega)).mono ?_
    rintro r w1 ⟨rfl, hr, hb⟩
    have R : Hid (Read8 w w1 g n rb l e 0) := ⟨.inr ⟨by omega, rfl, hr⟩, hb⟩
    clear hr hb
    go_wp2
    go_loop [5, 12] (fun t5 t12 => t12 = .int .i64 0 ∧ t5 = .int .u64 0) (fun _ t => 0)
    case atStart => exact ⟨rfl, rfl⟩
    case round =>
      obtain ⟨rfl, rfl⟩ := hrel
      go_wp2
      go_ret
      exact ⟨_, rfl, R.out⟩
end Go.Proofs.Ytajkdbpojeaflaa
