/- The contract of sponsionlaw06.texts over this translation. -/
import Derived.Test.YtgjckinihmbdeaaDoorRef6
import Derived.Test.YtgjckinihmbdeaaDoorDomLives
import Derived.Maps.AppendAt
namespace Go.Proofs.YtgjckinihmbdeaaDoor
open Go.RowKit Go.Lib
attribute [local go_sem] setCell_drewN alloc_drewN

/-- Texts as a program holds them. -/
def sv (ls : List (List Int)) : List Value := ls.map fun l => .string (strOfNums l)
theorem sv_length (ls : List (List Int)) : (sv ls).length = ls.length := by simp [sv]
theorem sv_get {ls : List (List Int)} {j : Nat} {l : List Int} (h : ls[j]? = some l) : (sv ls)[j]? = some (.string (strOfNums l)) := by simp [sv, h]
/-- The value v holds these texts, in a row of its own. -/
structure Ss (w0 w : World) (v : Value) (ls : List (List Int)) : Prop where
  own : w.ownsRow w0.heap.size 9 1 v ls.length (sv ls)
  below : Below w0.heap.size w0 w
theorem infoStr : (Tryd.prog.info? 9).map (fun i => (i.zero, i.size, i.bytes)) = some (some (.string ⟨#[]⟩), 1, 16) := by kernel_rfl
theorem info_str : ∃ i, Tryd.prog.info? 9 = some i ∧ i.zero = some (.string ⟨#[]⟩) ∧ i.size = 1 ∧ i.bytes = 16 := by
  have h := infoStr
  cases e : Tryd.prog.info? 9 with
  | none => rw [e] at h; simp at h
  | some i => rw [e] at h; simp at h; exact ⟨i, rfl, h.1, h.2.1, h.2.2⟩
theorem Ss.strs {w0 w : World} {v : Value} {ls : List (List Int)} (h : Ss w0 w v ls) : ∃ ao cap, v = .slice ao ls.length cap ∧ Strs w ao ls := by
  rcases h.own.2 with ⟨rfl, e⟩ | ⟨g, cap, cur, rfl, hb, hg, hcap, hm, hs, ht⟩
  · exact ⟨none, 0, by rw [e], .inl (List.eq_nil_of_length_eq_zero e)⟩
  · refine ⟨_, cap, rfl, .inr ⟨g, 0, rfl, (Array.getElem?_eq_some_iff.1 hg).1, fun j l hl => ?_⟩⟩
    have hj : j < ls.length := (List.getElem?_eq_some_iff.1 hl).1
    rw [Nat.zero_add, World.ownsRow.cellAt h.own j (by omega), sv_get hl]
/-- One text appended. -/
theorem app_str {ops : Array Oper} {rest : List Oper} {o : Oper} {a : Act} {Q : Exit → Act → World → Prop} (hgd : o.guard = none) (s x : Operand)
    (ho : o.op = .call { callee := .builtin .append, args := #[s, x], argTypes := #[28, 28] }) {w wr : World} (v : Value) (ls : List (List Int)) (l : List Int) (hs : a.eval s = v)
    (hx : a.eval x = .slice (some ⟨wr.heap.size, 0, none⟩) 1 1) (hm : Ss w wr v ls) (hl : ls.length ≤ 1048576)
    (h : ∀ v' w1, Ss w w1 v' (ls ++ [l]) → wpList Tryd.prog ops Q rest (a.put o.dst v') w1) :
    wpList Tryd.prog ops Q (o :: rest) a (wr.alloc (.cells #[.string (strOfNums l)] 9)) := by
  obtain ⟨i0, hi, hz0, hz1, hz2⟩ := info_str
  obtain ⟨hown, hnx⟩ := hm
  refine wpList_append_own_at _ hgd s x 28 ho w.heap.size 9 i0 (.string ⟨#[]⟩) 1 16 Tryd.underlying28 hi hz0 hz1 hz2 rfl (by decide) v ls.length _ hs (hown.alloc _) ⟨wr.heap.size, 0, none⟩ 1 1 [.string (strOfNums l)] hx rfl (cell_one_new _ _ _) (fun u hu => by simp at hu; subst hu; rfl) (by unfold maxLen; omega) (by omega) (by have := hnx.size; simp; omega) ?_
  intro v' w1 hown' hgrow _ _
  refine h v' w1 ⟨?_, ?_⟩
  · rw [List.length_append, List.length_singleton, show sv (ls ++ [l]) = sv ls ++ [.string (strOfNums l)] by simp [sv]]
    exact hown'
  · exact (bAl hnx).grown hgrow (by have := hnx.size; simp; omega) (fun k hk => (hown.lt k hk).1)
set_option maxHeartbeats 4000000 in
theorem texts_any {w : World} {ao : Option Addr} {cap : Nat} {ps : List Prt} (hp : Parts w ao ps) (hps : ps.length ≤ 900000) :
    Calls Tryd.prog 10 #[.slice ao ps.length cap] w fun e w' => ∃ bo bc, e = .returned (.slice bo (lsOf ps).length bc) ∧ Strs w' bo (lsOf ps) ∧ Below w.heap.size w w' := by
  have hpi : (ps.length : Int) ≤ 900000 := by omega
  have HP := hide hp
  clear hp
  go_enter Tryd.func10, Tryd.ntmps10
  go_wp2
  go_loopg [3, 8] ps.length (fun gk v i wr => ∃ k : Nat, gk + k = ps.length ∧ i = .int .i64 k ∧ Ss w wr v (lsOf (ps.take k)))
  case atStart => exact ⟨0, by omega, rfl, ⟨World.ownsRow_nil _ _ _ _, bMe w⟩⟩
  case round =>
    obtain ⟨k, hk, rfl, hs⟩ := hrel
    have S := hide hs; have HK := hide hk
    clear hs hk
    by_cases hlt : k < ps.length
    · have hki : (k : Int) < (ps.length : Int) := by omega
      obtain ⟨p, hp⟩ : ∃ p, ps[k]? = some p := ⟨ps[k], by simp [hlt]⟩
      have HL := hide (lsOf_take ps k p hp)
      have ck : ∃ b off, ao = some ⟨b, off, none⟩ ∧ wr.cell? ⟨b, off + k, none⟩ = some (.slice p.ao p.l.length p.cap) ∧ PtOk w p := by
        rcases HP.out with h0 | ⟨b, off, e, hl, hc⟩
        · rw [h0] at hlt; simp at hlt
        · exact ⟨b, off, e, (S.out.below.cell (p := ⟨b, off + k, none⟩) hl).trans (hc k p hp).1, (hc k p hp).2⟩
      obtain ⟨b, off, rfl, ck, hok⟩ := ck
      have hcv := (hok.lies.below S.out.below).str p.cap
      have hlk : (lsOf (ps.take k)).length ≤ 1048576 := by unfold lsOf; simp; omega
      obtain ⟨pa, pc, pl⟩ := p
      simp only [] at ck hcv HL
      clear hok hp
      generalize lsOf (ps.take k) = ls at *
      go_wp2_with (at_builtin; refine app_str rfl _ _ rfl _ ls pl rfl rfl S.out hlk ?_)
      intro v' w1 hs1
      have S1 := hide hs1
      clear hs1
      go_wp2
      go_roundg (ps.length - k - 1)
      case measure => have := HK.out; omega
      case rel => exact ⟨k + 1, by omega, by go_num, by rw [HL.out]; exact S1.out⟩
    · obtain rfl : k = ps.length := by have := HK.out; omega
      rw [List.take_length] at S
      obtain ⟨bo, bc, rfl, hst⟩ := S.out.strs
      have HST := hide hst
      clear hst
      go_wp2
      go_ret
      exact ⟨bo, bc, rfl, HST.out, S.out.below⟩
end Go.Proofs.YtgjckinihmbdeaaDoor
