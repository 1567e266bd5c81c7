/- What takes a deed back: the contracts of Set's and Drop's function literals over this translation. -/
import Derived.Test.YtncnilplmklccaaBkDid
import Derived.Deep.RegionHeld3
namespace Go.Proofs.Ytncnilplmklccaa
set_option linter.unusedSimpArgs false
set_option linter.unusedVariables false
set_option linter.unusedSectionVars false
open Go.RowKit Go.Lib
attribute [local go_sem] setCell_drewN alloc_drewN

theorem grown_drew {w w' : World} {b : Option Nat} (h : w.drew.grownBy w' b) : w.grownBy w' b := ⟨h.os, h.tape, h.output, h.size, h.block⟩
/-- 'delete(m, k)' as a step of a region that draws. -/
theorem step_mdel {ops : Array Oper} {o : Oper} {a : Act} {w : World} {K : Act → World → Prop} {Q : Exit → Act → World → Prop} {E : Prop} (hgd : o.guard = none) (m x : Operand)
    (ho : o.op = Op.call { callee := Callee.builtin Builtin.delete, args := #[m, x], argTypes := #[119, 96] }) {b : Nat} {L : Kvs} {k : Kk} (hm : a.eval m = .map (some b)) (hx : a.eval x = .agg #[.int .u8 k.1, .int .u8 k.2]) (h : MapIs encS w b L) (hk : Kok k)
    (hh : ∀ w', MapIs encS w' b (delL k L) → w.grownBy w' (some b) → K (a.put o.dst (.tuple #[])) w') :
    if Region.wanted o (yielded ops a.tmps) = true then Oper.wp Try.prog o a w K Q else E := by
  have hw : Region.wanted o (yielded ops a.tmps) = true := by simp [Region.wanted, hgd]
  rw [if_pos hw]
  obtain ⟨w', hrun, r1, r2⟩ := h.del encS (k := k) (kok hk) o.type
  unfold Oper.wp
  simp only [encS] at hrun
  simp [execOp, ho, resolve, invoke, builtin, hm, hx, hrun, Result.andThen]
  exact hh _ r1 r2.grown
/-- Cells stay where one map's block turns. -/
theorem cell_turned {w w' : World} {b : Nat} {L : Kvs} (hm : MapIs encS w b L) (hg : w.grownBy w' (some b)) {k o : Nat} {v : Value} (hc : w.cell? ⟨k, o, none⟩ = some v) : w'.cell? ⟨k, o, none⟩ = some v :=
  (World.cell?_of_block (w := w) (a := ⟨k, o, none⟩) (hg.block k (by obtain ⟨cs, t, f, e⟩ := cells_of_cellS hc; exact (Array.getElem?_eq_some_iff.1 e).1) (fun e => by cases e; exact hm.ne hc rfl))).trans hc
set_option maxRecDepth 100000 in
set_option maxHeartbeats 2000000 in
theorem undoPut_any {w : World} {h o m k a bm : Nat} {L : Kvs} {key : Kk} {v : Nm} (ch : w.cell? ⟨h, 0, none⟩ = some (.bool true)) (co : Cs w o (xC key v.1)) (cm : w.cell? ⟨m, 0, none⟩ = some (.pointer (some ⟨a, 0, none⟩)))
    (ck : Cs w k (kC key)) (ca : w.cell? ⟨a, 2, none⟩ = some (.map (some bm))) (hm : MapIs encS w bm L) (hL : Srt kyKey L) (hlen : L.length ≤ 1000000) (hk : Kok key) :
    Calls Try.prog 75 #[.pointer (some ⟨h, 0, none⟩), .pointer (some ⟨o, 0, none⟩), .pointer (some ⟨m, 0, none⟩), .pointer (some ⟨k, 0, none⟩)] w fun e w' => e = .returned (.tuple #[]) ∧ MapIs encS w' bm (putL kyKey key v L) ∧ w.grownBy w' (some bm) := by
  obtain ⟨ck0, ck1⟩ := ck.two
  obtain ⟨co0, co1, co2, co3, co4, co5⟩ := co.six
  clear ck co
  have hmd : MapIs encS w.drew bm L := hm
  obtain ⟨w2, hrun, r1, r2⟩ := hmd.put encS kyKey hL (by unfold maxLen; omega) (k := key) (kok hk) v
  have hg2 : w.grownBy w2 (some bm) := grown_drew r2.grown
  have hput : (Instr.mapUpdate 119 (.map (some bm)) (.agg #[.int .u8 key.1, .int .u8 key.2]) (.agg #[.int .u8 key.1, .int .u8 key.2, .int .u64 (lm v.1 0), .int .u64 (lm v.1 1), .int .u64 (lm v.1 2), .int .u64 (lm v.1 3)])).run Try.prog w.drew = .ok () w2 := hrun
  have H2 : Hid (MapIs encS w2 bm (putL kyKey key v L) ∧ w.grownBy w2 (some bm)) := ⟨r1, hg2⟩
  have HC : Hid (w2.cell? ⟨m, 0, none⟩ = some (.pointer (some ⟨a, 0, none⟩)) ∧ w2.cell? ⟨a, 2, none⟩ = some (.map (some bm)) ∧ w2.cell? ⟨k, 0, none⟩ = some (.int .u8 key.1) ∧ w2.cell? ⟨k, 1, none⟩ = some (.int .u8 key.2) ∧ w2.cell? ⟨o, 0, none⟩ = some (.int .u8 key.1) ∧ w2.cell? ⟨o, 1, none⟩ = some (.int .u8 key.2) ∧ w2.cell? ⟨o, 2, none⟩ = some (.int .u64 (lm v.1 0)) ∧ w2.cell? ⟨o, 3, none⟩ = some (.int .u64 (lm v.1 1)) ∧ w2.cell? ⟨o, 4, none⟩ = some (.int .u64 (lm v.1 2)) ∧ w2.cell? ⟨o, 5, none⟩ = some (.int .u64 (lm v.1 3))) :=
    ⟨cell_turned hm hg2 cm, cell_turned hm hg2 ca, cell_turned hm hg2 ck0, cell_turned hm hg2 ck1, cell_turned hm hg2 co0, cell_turned hm hg2 co1, cell_turned hm hg2 co2, cell_turned hm hg2 co3, cell_turned hm hg2 co4, cell_turned hm hg2 co5⟩
  clear hrun r1 r2 hmd hm hg2
  go_enter Try.func75, Try.ntmps75
  go_wp2
  go_region_held3 (fun w' => w'.cell? ⟨m, 0, none⟩ = some (.pointer (some ⟨a, 0, none⟩)) ∧ w'.cell? ⟨a, 2, none⟩ = some (.map (some bm)) ∧ w'.cell? ⟨k, 0, none⟩ = some (.int .u8 key.1) ∧ w'.cell? ⟨k, 1, none⟩ = some (.int .u8 key.2) ∧ w'.cell? ⟨o, 0, none⟩ = some (.int .u8 key.1) ∧ w'.cell? ⟨o, 1, none⟩ = some (.int .u8 key.2) ∧ w'.cell? ⟨o, 2, none⟩ = some (.int .u64 (lm v.1 0)) ∧ w'.cell? ⟨o, 3, none⟩ = some (.int .u64 (lm v.1 1)) ∧ w'.cell? ⟨o, 4, none⟩ = some (.int .u64 (lm v.1 2)) ∧ w'.cell? ⟨o, 5, none⟩ = some (.int .u64 (lm v.1 3))) (first | exact ⟨cm, ca, ck0, ck1, co0, co1, co2, co3, co4, co5⟩ | exact HC.out) (fail)
  go_wp2
  go_end0
  exact ⟨rfl, H2.out⟩
set_option maxRecDepth 100000 in
set_option maxHeartbeats 2000000 in
theorem undoDel_any {w : World} {h o m k a bm : Nat} {L : Kvs} {key : Kk} (ch : w.cell? ⟨h, 0, none⟩ = some (.bool false)) (cm : w.cell? ⟨m, 0, none⟩ = some (.pointer (some ⟨a, 0, none⟩)))
    (ck : Cs w k (kC key)) (ca : w.cell? ⟨a, 2, none⟩ = some (.map (some bm))) (hm : MapIs encS w bm L) (hk : Kok key) :
    Calls Try.prog 75 #[.pointer (some ⟨h, 0, none⟩), .pointer (some ⟨o, 0, none⟩), .pointer (some ⟨m, 0, none⟩), .pointer (some ⟨k, 0, none⟩)] w fun e w' => e = .returned (.tuple #[]) ∧ MapIs encS w' bm (delL key L) ∧ w.grownBy w' (some bm) := by
  obtain ⟨ck0, ck1⟩ := ck.two
  clear ck
  have hmd : MapIs encS w.drew bm L := hm
  have HM := hide hm
  clear hm
  go_enter Try.func75, Try.ntmps75
  go_wp2
  go_region_held3 (fun w' => w'.cell? ⟨m, 0, none⟩ = some (.pointer (some ⟨a, 0, none⟩)) ∧ w'.cell? ⟨a, 2, none⟩ = some (.map (some bm)) ∧ w'.cell? ⟨k, 0, none⟩ = some (.int .u8 key.1) ∧ w'.cell? ⟨k, 1, none⟩ = some (.int .u8 key.2)) (first | exact ⟨cm, ca, ck0, ck1⟩ | exact ⟨cell_turned HM.out (grown_drew hg1) cm, cell_turned HM.out (grown_drew hg1) ca, cell_turned HM.out (grown_drew hg1) ck0, cell_turned HM.out (grown_drew hg1) ck1⟩) ((refine step_mdel rfl _ _ rfl rfl rfl hmd hk ?_; intro w1 hm1 hg1))
  go_wp2
  go_end0
  exact ⟨rfl, hm1, grown_drew hg1⟩
set_option maxRecDepth 100000 in
set_option maxHeartbeats 2000000 in
theorem undoDrop_any {w : World} {o m k a bm : Nat} {L : Kvs} {key : Kk} {v : Nm} (co : Cs w o (xC key v.1)) (cm : w.cell? ⟨m, 0, none⟩ = some (.pointer (some ⟨a, 0, none⟩)))
    (ck : Cs w k (kC key)) (ca : w.cell? ⟨a, 2, none⟩ = some (.map (some bm))) (hm : MapIs encS w bm L) (hL : Srt kyKey L) (hlen : L.length ≤ 1000000) (hk : Kok key) :
    Calls Try.prog 73 #[.pointer (some ⟨o, 0, none⟩), .pointer (some ⟨m, 0, none⟩), .pointer (some ⟨k, 0, none⟩)] w fun e w' => e = .returned (.tuple #[]) ∧ MapIs encS w' bm (putL kyKey key v L) ∧ w.grownBy w' (some bm) := by
  obtain ⟨ck0, ck1⟩ := ck.two
  obtain ⟨co0, co1, co2, co3, co4, co5⟩ := co.six
  clear ck co
  have hmd : MapIs encS w.drew bm L := hm
  obtain ⟨w2, hrun, r1, r2⟩ := hmd.put encS kyKey hL (by unfold maxLen; omega) (k := key) (kok hk) v
  have hg2 : w.grownBy w2 (some bm) := grown_drew r2.grown
  have hput : (Instr.mapUpdate 119 (.map (some bm)) (.agg #[.int .u8 key.1, .int .u8 key.2]) (.agg #[.int .u8 key.1, .int .u8 key.2, .int .u64 (lm v.1 0), .int .u64 (lm v.1 1), .int .u64 (lm v.1 2), .int .u64 (lm v.1 3)])).run Try.prog w.drew = .ok () w2 := hrun
  have H2 : Hid (MapIs encS w2 bm (putL kyKey key v L) ∧ w.grownBy w2 (some bm)) := ⟨r1, hg2⟩
  have HC : Hid (w2.cell? ⟨m, 0, none⟩ = some (.pointer (some ⟨a, 0, none⟩)) ∧ w2.cell? ⟨a, 2, none⟩ = some (.map (some bm)) ∧ w2.cell? ⟨k, 0, none⟩ = some (.int .u8 key.1) ∧ w2.cell? ⟨k, 1, none⟩ = some (.int .u8 key.2) ∧ w2.cell? ⟨o, 0, none⟩ = some (.int .u8 key.1) ∧ w2.cell? ⟨o, 1, none⟩ = some (.int .u8 key.2) ∧ w2.cell? ⟨o, 2, none⟩ = some (.int .u64 (lm v.1 0)) ∧ w2.cell? ⟨o, 3, none⟩ = some (.int .u64 (lm v.1 1)) ∧ w2.cell? ⟨o, 4, none⟩ = some (.int .u64 (lm v.1 2)) ∧ w2.cell? ⟨o, 5, none⟩ = some (.int .u64 (lm v.1 3))) :=
    ⟨cell_turned hm hg2 cm, cell_turned hm hg2 ca, cell_turned hm hg2 ck0, cell_turned hm hg2 ck1, cell_turned hm hg2 co0, cell_turned hm hg2 co1, cell_turned hm hg2 co2, cell_turned hm hg2 co3, cell_turned hm hg2 co4, cell_turned hm hg2 co5⟩
  clear hrun r1 r2 hmd hm hg2
  go_enter Try.func73, Try.ntmps73
  go_region_held3 (fun w' => w'.cell? ⟨m, 0, none⟩ = some (.pointer (some ⟨a, 0, none⟩)) ∧ w'.cell? ⟨a, 2, none⟩ = some (.map (some bm)) ∧ w'.cell? ⟨k, 0, none⟩ = some (.int .u8 key.1) ∧ w'.cell? ⟨k, 1, none⟩ = some (.int .u8 key.2) ∧ w'.cell? ⟨o, 0, none⟩ = some (.int .u8 key.1) ∧ w'.cell? ⟨o, 1, none⟩ = some (.int .u8 key.2) ∧ w'.cell? ⟨o, 2, none⟩ = some (.int .u64 (lm v.1 0)) ∧ w'.cell? ⟨o, 3, none⟩ = some (.int .u64 (lm v.1 1)) ∧ w'.cell? ⟨o, 4, none⟩ = some (.int .u64 (lm v.1 2)) ∧ w'.cell? ⟨o, 5, none⟩ = some (.int .u64 (lm v.1 3))) (first | exact ⟨cm, ca, ck0, ck1, co0, co1, co2, co3, co4, co5⟩ | exact HC.out) (fail)
  go_wp2
  go_end0
  exact ⟨rfl, H2.out⟩
/-- Set's own. -/
theorem undoSet_st {w : World} {S Z : Nat → Prop} {bj : Jb} {A : List Nat} {mb : Nat → Nat} {X : Nat → Kvs} {ds : Deeds} (hs : St w S Z bj A mb X ds) {d : Deed Kk Nm} (hd : d.m ∈ A ∧ Kok d.k) (hlen : (X d.m).length ≤ 1000000) {h o m k : Nat}
    (c1 : w.cell? ⟨h, 0, none⟩ = some (.bool d.old.isSome)) (c2 : ∀ v, d.old = some v → Cs w o (xC d.k v.1)) (c3 : w.cell? ⟨m, 0, none⟩ = some (.pointer (some ⟨d.m, 0, none⟩))) (c4 : Cs w k (kC d.k)) :
    Calls Try.prog 75 #[.pointer (some ⟨h, 0, none⟩), .pointer (some ⟨o, 0, none⟩), .pointer (some ⟨m, 0, none⟩), .pointer (some ⟨k, 0, none⟩)] w fun e w' => e = .returned (.tuple #[]) ∧ St w' S Z bj A mb (undo1 kyKey d X) ds ∧ Mv S S w w' := by
  have hb := hs.box d.m hd.1
  have hL := hs.srt d.m
  cases e : d.old with
  | none =>
    rw [e] at c1
    refine (undoDel_any (o := o) c1 c3 c4 hb.2.2.c2 (hs.map d.m hd.1) hd.2).mono ?_
    rintro _ w' ⟨rfl, q1, q2⟩
    obtain ⟨t1, t2⟩ := hs.turn hd.1 q1 (hL.del kyKey) q2
    refine ⟨rfl, ?_, t2⟩
    unfold undo1 undoL
    rw [e]
    exact t1
  | some v =>
    rw [e] at c1
    refine (undoPut_any c1 (c2 v e) c3 c4 hb.2.2.c2 (hs.map d.m hd.1) hL hlen hd.2).mono ?_
    rintro _ w' ⟨rfl, q1, q2⟩
    obtain ⟨t1, t2⟩ := hs.turn hd.1 q1 (hL.put kyKey) q2
    refine ⟨rfl, ?_, t2⟩
    unfold undo1 undoL
    rw [e]
    exact t1
/-- Drop's own. -/
theorem undoDrop_st {w : World} {S Z : Nat → Prop} {bj : Jb} {A : List Nat} {mb : Nat → Nat} {X : Nat → Kvs} {ds : Deeds} (hs : St w S Z bj A mb X ds) {d : Deed Kk Nm} (hd : d.m ∈ A ∧ Kok d.k) (hlen : (X d.m).length ≤ 1000000) {o m k : Nat} {v : Nm} (e : d.old = some v)
    (c2 : Cs w o (xC d.k v.1)) (c3 : w.cell? ⟨m, 0, none⟩ = some (.pointer (some ⟨d.m, 0, none⟩))) (c4 : Cs w k (kC d.k)) :
    Calls Try.prog 73 #[.pointer (some ⟨o, 0, none⟩), .pointer (some ⟨m, 0, none⟩), .pointer (some ⟨k, 0, none⟩)] w fun e w' => e = .returned (.tuple #[]) ∧ St w' S Z bj A mb (undo1 kyKey d X) ds ∧ Mv S S w w' := by
  have hb := hs.box d.m hd.1
  have hL := hs.srt d.m
  refine (undoDrop_any c2 c3 c4 hb.2.2.c2 (hs.map d.m hd.1) hL hlen hd.2).mono ?_
  rintro _ w' ⟨rfl, q1, q2⟩
  obtain ⟨t1, t2⟩ := hs.turn hd.1 q1 (hL.put kyKey) q2
  refine ⟨rfl, ?_, t2⟩
  unfold undo1 undoL
  rw [e]
  exact t1
end Go.Proofs.Ytncnilplmklccaa
