/- Strings held against each other; events appended to events. -/
import Derived.Test.YtajkdbpojeaflaaEvtRows
import Derived.Test.YtajkdbpojeaflaaClassy
import Derived.Lib.Bytes
namespace Go.Proofs.Ytajkdbpojeaflaa
open Go.RowKit Go.Lib

theorem str_injE : ∀ {L M : List Int}, Byt L → Byt M → (strOfNums L).toList = (strOfNums M).toList → L = M := by
  intro L M hL hM h
  have e : L.map (fun n => UInt8.ofNat n.toNat) = M.map fun n => UInt8.ofNat n.toNat := by
    rw [strOfNums_toList, strOfNums_toList] at h
    exact h
  have el : L.length = M.length := by simpa using congrArg List.length e
  apply List.ext_getElem el
  intro j h1 h2
  have e2 : (L.map (fun n => UInt8.ofNat n.toNat))[j]? = (M.map fun n => UInt8.ofNat n.toNat)[j]? := by rw [e]
  simp only [List.getElem?_map, List.getElem?_eq_getElem h1, List.getElem?_eq_getElem h2, Option.map_some, Option.some.injEq] at e2
  have b1 := hL _ (List.getElem_mem h1)
  have b2 := hM _ (List.getElem_mem h2)
  have e3 := congrArg UInt8.toNat e2
  simp at e3
  omega
theorem str_same {l1 l2 : List Int} (h1 : Byt l1) (h2 : Byt l2) : ((strOfNums l1).toList == (strOfNums l2).toList) = decide (l1 = l2) := by
  by_cases e : l1 = l2
  · subst e; simp
  · have : ¬ (strOfNums l1).toList = (strOfNums l2).toList := fun h => e (str_injE h1 h2 h)
    simp [e, this]
theorem exec_eqStr (ρ : Operand → Value) (o : Oper) (xo yo : Operand) (ho : o.op = .binOp .eql 9 xo yo 9) {l1 l2 : List Int} (h1 : Byt l1) (h2 : Byt l2) (hx : ρ xo = .string (strOfNums l1)) (hy : ρ yo = .string (strOfNums l2)) (w : World) :
    (execOp ρ o).run Try.prog w = .ok (.value (.bool (decide (l1 = l2)))) w := by
  unfold execOp
  have hs := str_same h1 h2
  simp only [ho, hx, hy]
  rw [← hs]
  generalize strOfNums l1 = s1
  generalize strOfNums l2 = s2
  go_simp
/-- Events of another row appended, behind a guard that says yes. -/
theorem app_evs {ops : Array Oper} {rest : List Oper} {o : Oper} {a : Act} {Q : Exit → Act → World → Prop} (s x : Operand)
    (ho : o.op = .call { callee := .builtin .append, args := #[s, x], argTypes := #[28, 28] }) (hw : Region.wanted o (yielded ops a.tmps) = true) {w wr : World} (v : Value) (xs ys : List Evt) (so : Option Addr) (sc : Nat) (hs : a.eval s = v)
    (hx : a.eval x = .slice so ys.length sc) (hm : Es 37 w wr v xs) (hy : Evs wr so ys) (hn : so = none → sc = 0) (hl : xs.length ≤ 100000) (hl2 : ys.length ≤ 100000)
    (h : ∀ v' w1, Es 37 w w1 v' (xs ++ ys) → wr.grownBy w1 v.ownBlock → wpList Try.prog ops Q rest (a.put o.dst v') w1) :
    wpList Try.prog ops Q (o :: rest) a wr := by
  obtain ⟨i0, z0, hi, hz0, hzs, hz1, hz2⟩ := info_evR
  obtain ⟨hown, hnx⟩ := hm
  cases so with
  | none =>
    obtain rfl := hn rfl
    obtain rfl : ys = [] := by
      rcases hy with h | ⟨b, off, h, _⟩
      · exact h
      · simp at h
    refine BigFrame.wpList_want hw fun _ hK => ?_
    have hr := run_append_owned_none (P := Try.prog) wr w.heap.size 28 o.type 37 i0 47 Try.underlying28 hi v xs.length (evC xs) hown
    unfold Oper.wp execOp
    simp only [ho, resolve, invoke, builtin, Sem.run_bind, Sem.run_pure, Result.andThen_ok, List.map_toArray, List.map_cons, List.map_nil, hs, hx, List.length_nil, hr]
    exact hK _ _ (h v wr (by rw [List.append_nil]; exact ⟨hown, hnx⟩) ⟨rfl, rfl, rfl, Nat.le_refl _, fun _ _ _ => rfl⟩)
  | some ad =>
    have hnews : ∀ j u, (evC ys)[j]? = some u → wr.cell? (ad.add j) = some u := by
      intro j u hu
      have hj : j < ys.length * 47 := by have := (List.getElem?_eq_some_iff.1 hu).1; rwa [evC_length] at this
      rcases hy with rfl | ⟨b, off, e, hb, hc⟩
      · simp at hj
      · simp only [Option.some.injEq] at e
        subst e
        have hq : j / 47 < ys.length := by omega
        have hgx : ys[j / 47]? = some ys[j / 47] := by simp [hq]
        have hr : (ec ys[j / 47])[j % 47]? = some u := by
          have hm : j % 47 < (ec ys[j / 47]).length := by rw [ec_length]; omega
          have := evC_get ys (j / 47) _ hgx (j % 47) (ec ys[j / 47])[j % 47] (by simp [hm])
          rw [show j / 47 * 47 + j % 47 = j by omega, hu] at this
          rw [List.getElem?_eq_getElem hm]; exact this.symm
        have hcell := hc (j / 47) _ hgx (j % 47) u hr
        rw [Addr.add_mid, show off + j = off + j / 47 * 47 + j % 47 by omega]
        exact hcell
    refine BigFrame.wpList_want hw fun _ hK => wp_append_own _ s x 28 ho w.heap.size 37 i0 z0 47 128 Try.underlying28 hi hz0 hz1 hz2 hzs (by decide) v xs.length _ hs hown ad ys.length sc (evC ys) hx (evC_length ys) hnews (evC_one ys) (by unfold maxLen; omega) (by omega) hnx.size ?_
    intro v' w1 hown' hgrow _
    refine hK _ _ (h v' w1 ⟨?_, hnx.grown hgrow hnx.size (fun k hk => (hown.lt k hk).1)⟩ hgrow)
    rw [List.length_append, show evC (xs ++ ys) = evC xs ++ evC ys by simp [evC]]
    exact hown'
end Go.Proofs.Ytajkdbpojeaflaa
