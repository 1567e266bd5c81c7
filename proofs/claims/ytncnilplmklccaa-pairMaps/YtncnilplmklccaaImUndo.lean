/- What takes a deed of a map of numbers back: the contract of Set's function literal over this translation. -/
import Derived.Test.YtncnilplmklccaaImMem
import Derived.Deep.RegionHeld3
namespace Go.Proofs.Ytncnilplmklccaa.Im
set_option linter.unusedSimpArgs false
set_option linter.unusedVariables false
set_option linter.unusedSectionVars false
open Go.RowKit Go.Lib
attribute [local go_sem] setCell_drewN alloc_drewN

/-- 'delete(m, k)' as a step of a region that draws. -/
theorem step_mdel {ops : Array Oper} {o : Oper} {a : Act} {w : World} {K : Act → World → Prop} {Q : Exit → Act → World → Prop} {E : Prop} (hgd : o.guard = none) (m x : Operand)
    (ho : o.op = Op.call { callee := Callee.builtin Builtin.delete, args := #[m, x], argTypes := #[82, 3] }) {b : Nat} {L : Kvs} {k : Int} (hm : a.eval m = .map (some b)) (hx : a.eval x = .int .i64 k) (h : MapIs encS w b L) (hk : (Lit.int .i64 k).wf = true)
    (hh : ∀ w', MapIs encS w' b (delL k L) → w.grownBy w' (some b) → K (a.put o.dst (.tuple #[])) w') :
    if Region.wanted o (yielded ops a.tmps) = true then Oper.wp Try.prog o a w K Q else E := by
  have hw : Region.wanted o (yielded ops a.tmps) = true := by simp [Region.wanted, hgd]
  rw [if_pos hw]
  obtain ⟨w', hrun, r1, r2⟩ := h.del encS (k := k) hk o.type
  unfold Oper.wp
  simp only [encS] at hrun
  simp [execOp, ho, resolve, invoke, builtin, hm, hx, hrun, Result.andThen]
  exact hh _ r1 r2.grown
/-- Cells stay where one map's block turns. -/
theorem cell_turned {w w' : World} {b : Nat} {L : Kvs} (hm : MapIs encS w b L) (hg : w.grownBy w' (some b)) {k o : Nat} {v : Value} (hc : w.cell? ⟨k, o, none⟩ = some v) : w'.cell? ⟨k, o, none⟩ = some v :=
  (World.cell?_of_block (w := w) (a := ⟨k, o, none⟩) (hg.block k (by obtain ⟨cs, t, f, e⟩ := cells_of_cellS hc; exact (Array.getElem?_eq_some_iff.1 e).1) (fun e => by cases e; exact mne hm hc rfl))).trans hc
set_option maxHeartbeats 1000000 in
theorem undoPut_any {w : World} {h o m k a bm : Nat} {L : Kvs} {key v : Int} (ch : w.cell? ⟨h, 0, none⟩ = some (.bool true)) (co : w.cell? ⟨o, 0, none⟩ = some (.int .i64 key)) (co1 : w.cell? ⟨o, 1, none⟩ = some (.int .i64 v)) (cm : w.cell? ⟨m, 0, none⟩ = some (.pointer (some ⟨a, 0, none⟩)))
    (ck : w.cell? ⟨k, 0, none⟩ = some (.int .i64 key)) (ca : w.cell? ⟨a, 2, none⟩ = some (.map (some bm))) (hm : MapIs encS w bm L) (hL : Srt kyInt L) (hlen : L.length ≤ 1000000) (hk : (Lit.int .i64 key).wf = true) :
    Calls Try.prog 41 #[.pointer (some ⟨h, 0, none⟩), .pointer (some ⟨o, 0, none⟩), .pointer (some ⟨m, 0, none⟩), .pointer (some ⟨k, 0, none⟩)] w fun e w' => e = .returned (.tuple #[]) ∧ MapIs encS w' bm (putL kyInt key v L) ∧ w.grownBy w' (some bm) := by
  have hmd : MapIs encS w.drew bm L := hm
  obtain ⟨w2, hrun, r1, r2⟩ := hmd.put encS kyInt hL (by unfold maxLen; omega) (k := key) hk v
  have hg2 : w.grownBy w2 (some bm) := grown_drew r2.grown
  have hput : (Instr.mapUpdate 82 (.map (some bm)) (.int .i64 key) (.agg #[.int .i64 key, .int .i64 v])).run Try.prog w.drew = .ok () w2 := hrun
  have H2 : Hid (MapIs encS w2 bm (putL kyInt key v L) ∧ w.grownBy w2 (some bm)) := ⟨r1, hg2⟩
  have HC : Hid (w2.cell? ⟨m, 0, none⟩ = some (.pointer (some ⟨a, 0, none⟩)) ∧ w2.cell? ⟨a, 2, none⟩ = some (.map (some bm)) ∧ w2.cell? ⟨k, 0, none⟩ = some (.int .i64 key) ∧ w2.cell? ⟨o, 0, none⟩ = some (.int .i64 key) ∧ w2.cell? ⟨o, 1, none⟩ = some (.int .i64 v)) :=
    ⟨cell_turned hm hg2 cm, cell_turned hm hg2 ca, cell_turned hm hg2 ck, cell_turned hm hg2 co, cell_turned hm hg2 co1⟩
  clear hrun r1 r2 hmd hm hg2
  go_enter Try.func41, Try.ntmps41
  go_wp2
  go_region_held3 (fun w' => w'.cell? ⟨m, 0, none⟩ = some (.pointer (some ⟨a, 0, none⟩)) ∧ w'.cell? ⟨a, 2, none⟩ = some (.map (some bm)) ∧ w'.cell? ⟨k, 0, none⟩ = some (.int .i64 key) ∧ w'.cell? ⟨o, 0, none⟩ = some (.int .i64 key) ∧ w'.cell? ⟨o, 1, none⟩ = some (.int .i64 v)) (first | exact ⟨cm, ca, ck, co, co1⟩ | exact HC.out) (fail)
  go_wp2
  go_end0
  exact ⟨rfl, H2.out⟩
set_option maxHeartbeats 1000000 in
theorem undoDel_any {w : World} {h o m k a bm : Nat} {L : Kvs} {key : Int} (ch : w.cell? ⟨h, 0, none⟩ = some (.bool false)) (cm : w.cell? ⟨m, 0, none⟩ = some (.pointer (some ⟨a, 0, none⟩)))
    (ck : w.cell? ⟨k, 0, none⟩ = some (.int .i64 key)) (ca : w.cell? ⟨a, 2, none⟩ = some (.map (some bm))) (hm : MapIs encS w bm L) (hk : (Lit.int .i64 key).wf = true) :
    Calls Try.prog 41 #[.pointer (some ⟨h, 0, none⟩), .pointer (some ⟨o, 0, none⟩), .pointer (some ⟨m, 0, none⟩), .pointer (some ⟨k, 0, none⟩)] w fun e w' => e = .returned (.tuple #[]) ∧ MapIs encS w' bm (delL key L) ∧ w.grownBy w' (some bm) := by
  have hmd : MapIs encS w.drew bm L := hm
  have HM := hide hm
  clear hm
  go_enter Try.func41, Try.ntmps41
  go_wp2
  go_region_held3 (fun w' => w'.cell? ⟨m, 0, none⟩ = some (.pointer (some ⟨a, 0, none⟩)) ∧ w'.cell? ⟨a, 2, none⟩ = some (.map (some bm)) ∧ w'.cell? ⟨k, 0, none⟩ = some (.int .i64 key)) (first | exact ⟨cm, ca, ck⟩ | exact ⟨cell_turned HM.out (grown_drew hg1) cm, cell_turned HM.out (grown_drew hg1) ca, cell_turned HM.out (grown_drew hg1) ck⟩) ((refine step_mdel rfl _ _ rfl rfl rfl hmd hk ?_; intro w1 hm1 hg1))
  go_wp2
  go_end0
  exact ⟨rfl, hm1, grown_drew hg1⟩
end Go.Proofs.Ytncnilplmklccaa.Im
