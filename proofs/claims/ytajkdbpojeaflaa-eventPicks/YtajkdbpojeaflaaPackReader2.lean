/- Contracts of pack.Reader's other methods over this translation. -/
import Derived.Test.YtajkdbpojeaflaaPackReader
import Derived.Deep.RegionHeld3
namespace Go.Proofs.Ytajkdbpojeaflaa
open Go.RowKit Go.Lib
attribute [local go_sem] setCell_drewN alloc_drewN

theorem Read8.bd {w w' : World} {g n : Nat} {rb : Option Nat} {l : List Int} {e v : Int} (h : Read8 w w' g n rb l e v) (hl : Byt l) : 0 ≤ v ∧ v < 256 ^ n := by
  rcases h.1 with ⟨h1, rfl, _⟩ | ⟨_, rfl, _⟩
  · exact bval_bd hl n h1
  · exact ⟨by omega, Int.pow_pos (by decide)⟩
theorem ru8_any {w : World} {g : Nat} {rb : Option Nat} {l : List Int} {e : Int} (h : Rdr w g rb l e) (hl : Byt l) :
    Calls Try.prog 42 #[.pointer (some ⟨g, 0, none⟩)] w fun r w' => ∃ v, r = .returned (.int .u8 v) ∧ Read8 w w' g 1 rb l e v := by
  have H := hide h; have HL := hide hl
  clear h hl
  go_enter Try.func42, Try.ntmps42
  go_wp2_with fail
  refine (rnumber_any H.out HL.out 1 (by omega)).mono ?_
  rintro r w1 ⟨v, rfl, hr⟩
  have R := hide hr
  obtain ⟨v0, v1⟩ := hr.bd HL.out
  have v2 : v < 256 := by simpa using v1
  clear hr v1
  go_wp2
  go_ret
  exact ⟨_, rfl, by first | exact R.out | (rw [Int.emod_eq_of_lt v0 v2]; exact R.out)⟩
theorem ru32_any {w : World} {g : Nat} {rb : Option Nat} {l : List Int} {e : Int} (h : Rdr w g rb l e) (hl : Byt l) :
    Calls Try.prog 46 #[.pointer (some ⟨g, 0, none⟩)] w fun r w' => ∃ v, r = .returned (.int .u32 v) ∧ Read8 w w' g 4 rb l e v := by
  have H := hide h; have HL := hide hl
  clear h hl
  go_enter Try.func46, Try.ntmps46
  go_wp2_with fail
  refine (rnumber_any H.out HL.out 4 (by omega)).mono ?_
  rintro r w1 ⟨v, rfl, hr⟩
  have R := hide hr
  obtain ⟨v0, v1⟩ := hr.bd HL.out
  have v2 : v < 4294967296 := by simpa using v1
  clear hr v1
  go_wp2
  go_ret
  exact ⟨_, rfl, by first | exact R.out | (rw [Int.emod_eq_of_lt v0 v2]; exact R.out)⟩
theorem ru64_any {w : World} {g : Nat} {rb : Option Nat} {l : List Int} {e : Int} (h : Rdr w g rb l e) (hl : Byt l) :
    Calls Try.prog 43 #[.pointer (some ⟨g, 0, none⟩)] w fun r w' => ∃ v, r = .returned (.int .u64 v) ∧ Read8 w w' g 8 rb l e v := by
  have H := hide h; have HL := hide hl
  clear h hl
  go_enter Try.func43, Try.ntmps43
  go_wp2_with fail
  refine (rnumber_any H.out HL.out 8 (by omega)).mono ?_
  rintro r w1 ⟨v, rfl, hr⟩
  have R := hide hr
  clear hr
  go_wp2
  go_ret
  exact ⟨_, rfl, R.out⟩
theorem Bar.new {g : Nat} {a w : World} (h : Bar g a w) {p : Addr} (hp : a.heap.size ≤ p.block) (v : Value) : Bar g a (w.setCell p v) :=
  ⟨h.os, h.tape, h.output, by have := h.size; simpa [World.setCell] using this, fun k hk hne => by rw [Below.heap_setCell _ _ _ _ (by omega)]; exact h.block k hk hne⟩
theorem At.bsl {w : World} {ao : Option Addr} {l : List Int} {n cap : Nat} (h : At w ao l) (hn : l.length = n) (hc : n ≤ cap) : BSl w ao n cap (fun j => l.getD j 0) := by
  subst hn
  refine ⟨hc, fun hp => ?_⟩
  rcases h with rfl | ⟨b, off, rfl, hl, hc⟩
  · simp at hp
  · exact ⟨b, off, rfl, hl, hc⟩
/-- A number of 32 bytes was read. -/
def ReadI (w w' : World) (g : Nat) (rb : Option Nat) (l : List Int) (e v : Int) : Prop :=
  (32 ≤ l.length ∧ v = rv (fun j => l.getD j 0) 32 ∧ Rdr w' g rb (l.drop 32) e ∨ l.length < 32 ∧ v = 0 ∧ Rdr w' g rb [] (errOf e)) ∧ Bar g w w'
theorem rv_congr {f f' : Nat → Int} (h : ∀ j, j < 32 → f j = f' j) (k : Nat) (hk : k ≤ 32) : rv f k = rv f' k := by
  induction k with
  | zero => rfl
  | succ k ih => unfold rv; rw [ih (by omega), h (31 - k) (by omega)]
theorem Rdr.put4 {w : World} {g : Nat} {rb : Option Nat} {l : List Int} {e : Int} (h : Rdr w g rb l e) {g' : Nat} (h1 : g ≠ g') (h2 : rb ≠ some g') {a b c d : Int} : Rdr (put4 w g' a b c d) g rb l e :=
  (((h.other (p := ⟨g', 0, none⟩) h1 h2 _).other (p := ⟨g', 1, none⟩) h1 h2 _).other (p := ⟨g', 2, none⟩) h1 h2 _).other (p := ⟨g', 3, none⟩) h1 h2 _
theorem Bar.put4 {g : Nat} {a w : World} (h : Bar g a w) {g' : Nat} (hp : a.heap.size ≤ g') {x y z u : Int} : Bar g a (put4 w g' x y z u) :=
  (((h.new (p := ⟨g', 0, none⟩) hp _).new (p := ⟨g', 1, none⟩) hp _).new (p := ⟨g', 2, none⟩) hp _).new (p := ⟨g', 3, none⟩) hp _
theorem ret_big {a b : Int} (h : a = b) : Ending.returned (big a) = .returned (big b) := by rw [h]
set_option maxHeartbeats 4000000 in
theorem rint_any {w : World} {g : Nat} {rb : Option Nat} {l : List Int} {e : Int} (h : Rdr w g rb l e) (hl : Byt l) :
    Calls Try.prog 45 #[.pointer (some ⟨g, 0, none⟩)] w fun r w' => ∃ v, r = .returned (big v) ∧ ReadI w w' g rb l e v := by
  have H := hide h; have HL := hide hl
  clear h hl
  have HG1 : Hid (g ≠ w.heap.size) := by have := H.out.lt.1; exact Nat.ne_of_lt this
  have HG2 : Hid (rb ≠ some w.heap.size) := fun e => by have := H.out.lt.2.1 _ e; omega
  by_cases hlen : 32 ≤ l.length
  · go_enter Try.func45, Try.ntmps45
    go_wp2_with fail
    refine (take_ok (H.out.past _) 32 hlen).mono ?_
    rintro r w1 ⟨ao1, cap1, rfl, ha, hrow, hnil, hc1, hr, hb⟩
    have A := hide ha; have R := hide hr
    have P := hide ((Own.new w 0 0 0 0 34).bar hb HG1.out.symm rfl)
    have BA := hide (Bar.trans (Bar.al (Bar.refl g w) _) hb)
    have HC1 := hide hc1
    clear ha hrow hnil hr hb hc1
    have ht : (l.take 32).length = 32 := by simp; omega
    go_wp2_with fail
    refine (read_ok (A.out.bsl ht HC1.out) ((HL.out.take 32).get)).mono ?_
    rintro r w2 ⟨rfl, hb⟩
    rw [show rv (fun j => (l.take 32).getD j 0) 32 = rv (fun j => l.getD j 0) 32 from rv_congr (fun j hj => by simp [hj]) 32 (Nat.le_refl _)]
    replace P := hide (P.out.after hb rfl); replace R := hide (R.out.after hb rfl); replace BA := hide (BA.out.on hb)
    clear hb ht
    obtain ⟨V, hV⟩ : ∃ V, rv (fun j => l.getD j 0) 32 = V := ⟨_, rfl⟩
    rw [hV]
    have HV := hide hV
    clear hV
    obtain ⟨p5, p0, p1, p2, p3, pf⟩ := P.out
    go_wp2
    refine bodyPost_ret (v := big V) (by simp [results, Try.results45, go_sem, p0, p1, p2, p3, p5]) rfl ⟨V, rfl, .inl ⟨hlen, HV.out.symm, ?_⟩, ?_⟩
    · exact (R.out.put4 HG1.out HG2.out).past _
    · exact (BA.out.put4 (Nat.le_refl _)).al _
  · go_enter Try.func45, Try.ntmps45
    go_wp2_with fail
    refine (take_short (H.out.past _) 32 (by omega)).mono ?_
    rintro r w1 ⟨rfl, hr, hb⟩
    have R := hide hr
    have P := hide ((Own.new w 0 0 0 0 34).bar hb HG1.out.symm rfl)
    have BA := hide (Bar.trans (Bar.al (Bar.refl g w) _) hb)
    clear hr hb
    go_wp2_with fail
    refine (read_short (n := 0) (by omega)).mono ?_
    rintro r w2 ⟨rfl, hb⟩
    replace P := hide (P.out.after hb rfl); replace R := hide (R.out.after hb rfl); replace BA := hide (BA.out.on hb)
    clear hb
    obtain ⟨p5, p0, p1, p2, p3, pf⟩ := P.out
    go_wp2
    refine bodyPost_ret (v := big 0) (by simp [results, Try.results45, go_sem, p0, p1, p2, p3, p5]) rfl ⟨0, rfl, .inr ⟨by omega, rfl, ?_⟩, ?_⟩
    · exact (R.out.put4 HG1.out HG2.out).past _
    · exact (BA.out.put4 (Nat.le_refl _)).al _
/-- Bytes were read. -/
def ReadB (w w' : World) (g n : Nat) (rb : Option Nat) (l : List Int) (e : Int) (l' : List Int) : Prop :=
  (n ≤ l.length ∧ l' = l.take n ∧ Rdr w' g rb (l.drop n) e ∨ l.length < n ∧ l' = [] ∧ Rdr w' g rb [] (errOf e)) ∧ Bar g w w'
end Go.Proofs.Ytajkdbpojeaflaa
