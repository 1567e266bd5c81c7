/- The contract of sponsionlaw09.lives over this translation. -/
import Derived.Test.YtajkdbpojeaflaaEvtRows
namespace Go.Proofs.Ytajkdbpojeaflaa
open Go.RowKit Go.Lib
attribute [local go_sem] setCell_drewN alloc_drewN

theorem wpList_exec {ops : Array Oper} {rest : List Oper} {o : Oper} {a : Act} {w : World} {Q : Exit → Act → World → Prop} (hg : o.guard = none) (v : Value) (hr : (execOp a.eval o).run Try.prog w = .ok (.value v) w)
    (h : wpList Try.prog ops Q rest (a.put o.dst v) w) : wpList Try.prog ops Q (o :: rest) a w :=
  wpList_plain hg fun K hK => by
    unfold Oper.wp
    rw [hr]
    exact hK _ _ h
def leftEvt : Evt := { noEvt with k := 18 }
theorem leftEvt_ok : leftEvt.Ok := ⟨by simp [leftEvt], noEvt_ok.b, noEvt_ok.h, noEvt_ok.z, noEvt_ok.s, noEvt_ok.t, noEvt_ok.f, noEvt_ok.u, noEvt_ok.a, noEvt_ok.c, noEvt_ok.n⟩
theorem build_none {o : Oper} (ho : o.op = .build 40 #[]) (ρ : Operand → Value) (w : World) : (execOp ρ o).run Try.prog w = .ok (.value (evV noEvt)) w := by
  unfold execOp
  simp only [ho]
  kernel_rfl
theorem build_left {o : Oper} (ho : o.op = .build 40 #[(0, .const (.int .u8 18))]) (a : Act) (w : World) : (execOp a.eval o).run Try.prog w = .ok (.value (evV leftEvt)) w := by
  unfold execOp
  simp only [ho]
  kernel_rfl
theorem fill_two (x y : Evt) (z : Array Value) (hz : z.size = 94) : Instr.fill (fun i => some (i * 47, 47)) z [(0, evV x), (1, evV y)] = some (evC [x, y]).toArray := by
  have h := Great.fill_whole (s := 47) (by omega) [evV x, evV y] z (fun v hv => by
    simp at hv
    rcases hv with rfl | rfl
    · show (ec x).toArray.size = 47; rw [List.size_toArray, ec_length]
    · show (ec y).toArray.size = 47; rw [List.size_toArray, ec_length]) (by rw [hz]; rfl)
  have e : ([evV x, evV y].flatMap fun v => v.cells.toList) = evC [x, y] := by simp [evV, Value.cells, evC]
  rw [e] at h
  exact h
theorem build_two {ops : Array Oper} {rest : List Oper} {o : Oper} {a : Act} {w : World} {Q : Exit → Act → World → Prop} (hg : o.guard = none) (s s' : Operand) (ho : o.op = .buildSlice 22 2 #[(0, s), (1, s')]) (x y : Evt) (hs : a.eval s = evV x) (hs' : a.eval s' = evV y)
    (h : wpList Try.prog ops Q rest (a.put o.dst (.slice (some ⟨w.heap.size, 0, none⟩) 2 2)) (w.alloc (.cells (evC [x, y]).toArray 40))) : wpList Try.prog ops Q (o :: rest) a w := by
  obtain ⟨i0, z0, hi, hz0, hzs, hz1, hz2⟩ := info_evE
  refine wpList_buildSlice hg 22 40 2 #[(0, s), (1, s')] ho (evC [x, y]).toArray i0 z0 Try.underlying22 hi hz0 (by rw [hz1]; omega) (by rw [hz1]; omega) ?_ h
  rw [hz1]
  simp only [List.map_toArray, List.map_cons, List.map_nil, hs, hs']
  exact fill_two x y _ (by simp)
theorem evs_new (w : World) (xs : List Evt) (t : TypeId) : Evs (w.alloc (.cells (evC xs).toArray t)) (some ⟨w.heap.size, 0, none⟩) xs := by
  refine .inr ⟨w.heap.size, 0, rfl, by simp, fun j x hx i v hv => ?_⟩
  rw [Nat.zero_add, World.cell?_alloc_at _ _ _ _ rfl]
  simpa using evC_get xs j x hx i v hv
theorem lives_at : (allE [noEvt, leftEvt]).getD 113 0 = 18 := by kernel_rfl
set_option maxRecDepth 100000 in
set_option maxHeartbeats 4000000 in
theorem lives9_any (w : World) : Calls Try.prog 7 #[] w fun e w' => e = .returned (.bool true) ∧ Below w.heap.size w w' := by
  go_enter Try.func7, Try.ntmps7
  go_wp2_with (first
    | refine wpList_exec rfl (evV noEvt) (build_none rfl _ _) ?_
    | refine wpList_exec rfl (evV leftEvt) (build_left rfl _ _) ?_
    | refine build_two rfl _ _ rfl noEvt leftEvt rfl rfl ?_)
  have E := hide (evs_new w [noEvt, leftEvt] 40)
  have B : Hid (Below w.heap.size w (w.alloc (.cells (evC [noEvt, leftEvt]).toArray 40))) := bAl (bMe w)
  generalize w.alloc (.cells (evC [noEvt, leftEvt]).toArray 40) = w1 at *
  refine (bytes9_any (xs := [noEvt, leftEvt]) E.out (fun x hx => by simp at hx; rcases hx with rfl | rfl; exact noEvt_ok; exact leftEvt_ok) (by simp)).mono ?_
  rintro e w2 ⟨hbe, hb⟩
  replace B := hide (bOn B.out hb)
  rcases hbe with ⟨_, v, rfl, hv⟩ | ⟨hn, _⟩
  · obtain ⟨bo, bc, rfl, k1, k2, k3⟩ := hv.cell
    have hl : (allE [noEvt, leftEvt]).length = 226 := by rw [allE_length]; rfl
    rw [hl] at k1 ⊢
    rcases k3 with h0 | ⟨b, off, rfl, hbl, hc⟩
    · rw [h0] at hl; simp at hl
    · have c := hc 113 (by omega)
      rw [lives_at] at c
      clear hv hb hc hl k1 k2 E
      go_wp2
      go_ret
      exact ⟨rfl, B.out⟩
  · exact absurd hn (by decide)
end Go.Proofs.Ytajkdbpojeaflaa
