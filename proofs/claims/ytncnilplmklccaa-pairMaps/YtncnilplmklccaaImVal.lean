/- A round of PairMaps: the pair, the journal's map, and the map of values beside it, as one fact. -/
import Derived.Test.YtncnilplmklccaaImTry
namespace Go.Proofs.Ytncnilplmklccaa.Im
set_option linter.unusedSimpArgs false
set_option linter.unusedVariables false
set_option linter.unusedSectionVars false
open Go.RowKit Go.Lib
attribute [local go_sem] setCell_drewN alloc_drewN

theorem atV (k : Int) (L : Kvs) : (Vm.atL Vm.encV k L).2 = fv k L := by
  unfold fv Vm.atL Go.Proofs.Ytncnilplmklccaa.atL
  cases getL k L <;> rfl
theorem val_look {w : World} {b : Nat} {L : Kvs} {k : Int} (h : Vm.MapIs Vm.encV w b L) (hL : Srt kyInt L) (hk : (Lit.int .i64 k).wf = true) :
    (Instr.lookup 49 (.map (some b)) (.int .i64 k) true).run Try.prog w = .ok (.tuple #[.int .i64 (fv k L), .bool (fh k L)]) w := by
  have := Vm.MapIs.look Vm.encV kyInt h hL (k := k) hk
  rw [← atV]
  exact this
theorem val_len {w : World} {b : Nat} {L : Kvs} (h : Vm.MapIs Vm.encV w b L) (ty : TypeId) :
    (Builtin.len_ #[49] ty #[.map (some b)]).run Try.prog w = .ok (.int .i64 L.length) w := Vm.MapIs.len Vm.encV h ty
theorem val_put {w : World} {b : Nat} {L : Kvs} {k v : Int} (h : Vm.MapIs Vm.encV w b L) (hL : Srt kyInt L) (hlen : L.length ≤ 1000) (hk : (Lit.int .i64 k).wf = true) :
    ∃ w', (Instr.mapUpdate 49 (.map (some b)) (.int .i64 k) (.int .i64 v)).run Try.prog w = .ok () w' ∧ Vm.MapIs Vm.encV w' b (putL kyInt k v L) ∧ w.grownBy w' (some b) := by
  obtain ⟨w', h1, h2, h3⟩ := Vm.MapIs.put Vm.encV kyInt h hL (by unfold maxLen; omega) (k := k) hk v
  exact ⟨w', h1, h2, h3.grown⟩
theorem val_ne {w : World} {b c o : Nat} {v : Value} {L : Kvs} (h : Vm.MapIs Vm.encV w b L) (hc : w.cell? ⟨c, o, none⟩ = some v) : b ≠ c := fun e => by
  subst e
  rw [Vm.MapIs.noCell Vm.encV h] at hc
  cases hc
/-- The boxes that are the round's own. -/
def Own8 (a bm bv gm gp gf gi gx : Nat) (j : Nat) : Prop := j = a ∨ j = bm ∨ j = bv ∨ j = gm ∨ j = gp ∨ j = gf ∨ j = gi ∨ j = gx
def Own6 (a bm bv gm gp gf : Nat) (j : Nat) : Prop := j = a ∨ j = bm ∨ j = bv ∨ j = gm ∨ j = gp ∨ j = gf
/-- The pair, the journal's map L, the values' map M; s tries were kept. -/
structure ImS (W w : World) (Fr : Nat → Prop) (bp a bm bv gm gp gf : Nat) (ao : Option Addr) (fl : List Bool) (cap : Nat) (L0 : Nat → BKs) (N : List Int) (L M : Kvs) (s : Int) (i : Nat) : Prop where
  pq : PQ W w bp L0 N Fr
  fr : ∀ j, Own6 a bm bv gm gp gf j → Fr j
  box : MapBox w a bp bm
  map : MapIs encS w bm L
  val : Vm.MapIs Vm.encV w bv M
  ne : bm ≠ bv
  lm : W.heap.size ≤ bm
  lv : W.heap.size ≤ bv
  srt : Srt kyInt L
  len : L.length ≤ i
  srtM : Srt kyInt M
  lenM : M.length ≤ i
  b : bal (L0 1) (0, 2) = s
  u : sup (L0 1) 0 = s
  n : N[1]? = some s
  s : 0 ≤ s ∧ s ≤ i
  cm : w.cell? ⟨gm, 0, none⟩ = some (.pointer (some ⟨a, 0, none⟩))
  cp : w.cell? ⟨gp, 0, none⟩ = some (.pointer (some ⟨bp, 0, none⟩))
  cf : w.cell? ⟨gf, 0, none⟩ = some (.slice ao fl.length cap)
section
variable {W w w' : World} {Fr : Nat → Prop} {bp a bm bv gm gp gf i : Nat} {ao : Option Addr} {fl : List Bool} {cap : Nat} {L0 : Nat → BKs} {N : List Int} {L M : Kvs} {s : Int}
theorem ImS.after (h : ImS W w Fr bp a bm bv gm gp gf ao fl cap L0 N L M s i) (hb : Below w.heap.size w w') : ImS W w' Fr bp a bm bv gm gp gf ao fl cap L0 N L M s i := by
  have k : ∀ j, Own6 a bm bv gm gp gf j → w'.heap[j]? = w.heap[j]? := fun j hj => hb.block j (h.pq.low j (h.fr j hj))
  have c : ∀ j o, Own6 a bm bv gm gp gf j → w'.cell? ⟨j, o, none⟩ = w.cell? ⟨j, o, none⟩ := fun j o hj => World.cell?_of_block (w := w) (a := ⟨j, o, none⟩) (k j hj)
  exact ⟨h.pq.below hb, h.fr, h.box.of (k _ (by simp [Own6])), h.map.of _ (k _ (by simp [Own6])), Vm.MapIs.of Vm.encV h.val (k _ (by simp [Own6])), h.ne, h.lm, h.lv, h.srt, h.len, h.srtM, h.lenM, h.b, h.u, h.n, h.s, (c _ _ (by simp [Own6])).trans h.cm, (c _ _ (by simp [Own6])).trans h.cp, (c _ _ (by simp [Own6])).trans h.cf⟩
theorem ImS.add (h : ImS W w (Own6 a bm bv gm gp gf) bp a bm bv gm gp gf ao fl cap L0 N L M s i) (hb : Below w.heap.size w w') {gi gx : Nat} (hi : w.heap.size ≤ gi ∧ gi < w'.heap.size) (hx : w.heap.size ≤ gx ∧ gx < w'.heap.size) : ImS W w' (Own8 a bm bv gm gp gf gi gx) bp a bm bv gm gp gf ao fl cap L0 N L M s i := by
  have h2 := h.after hb
  refine { h2 with pq := (h.pq.add (F := fun j => j = gi ∨ j = gx) hb fun j hj => by rcases hj with rfl | rfl; exact hi; exact hx).sub fun j hj => ?_, fr := fun j hj => ?_ }
  · unfold Own8 at hj; unfold Own6; simp only [or_assoc]; exact hj
  · unfold Own6 at hj; unfold Own8
    rcases hj with h | h | h | h | h | h <;> simp [h]
theorem ImS.drop {gi gx : Nat} (h : ImS W w (Own8 a bm bv gm gp gf gi gx) bp a bm bv gm gp gf ao fl cap L0 N L M s i) : ImS W w (Own6 a bm bv gm gp gf) bp a bm bv gm gp gf ao fl cap L0 N L M s i :=
  { h with pq := h.pq.sub h.fr, fr := fun j hj => hj }
theorem ImS.more {i' : Nat} (h : ImS W w Fr bp a bm bv gm gp gf ao fl cap L0 N L M s i) (hi : i ≤ i') : ImS W w Fr bp a bm bv gm gp gf ao fl cap L0 N L M s i' :=
  { h with len := Nat.le_trans h.len hi, lenM := Nat.le_trans h.lenM hi, s := ⟨h.s.1, by have := h.s.2; omega⟩ }
/-- The map's block, and that of the values, are no boxes. -/
theorem ImS.far (h : ImS W w Fr bp a bm bv gm gp gf ao fl cap L0 N L M s i) : (a ≠ bm ∧ gm ≠ bm ∧ gp ≠ bm ∧ gf ≠ bm) ∧ (a ≠ bv ∧ gm ≠ bv ∧ gp ≠ bv ∧ gf ≠ bv) :=
  ⟨⟨(mne h.map h.box.c0).symm, (mne h.map h.cm).symm, (mne h.map h.cp).symm, (mne h.map h.cf).symm⟩, (val_ne h.val h.box.c0).symm, (val_ne h.val h.cm).symm, (val_ne h.val h.cp).symm, (val_ne h.val h.cf).symm⟩
/-- Behind a try. -/
theorem ImS.tried {L0' : Nat → BKs} {N' : List Int} {L' : Kvs} {s' : Int} (h : ImS W w Fr bp a bm bv gm gp gf ao fl cap L0 N L M s i) (p : PQ W w' bp L0' N' Fr) (hm : MapIs encS w' bm L') (k : Kp (fun j => Fr j ∧ j ≠ bm) w w') (h1 : Srt kyInt L') (h2 : L'.length ≤ i) (h3 : bal (L0' 1) (0, 2) = s') (h4 : sup (L0' 1) 0 = s') (h5 : N'[1]? = some s') (h6 : 0 ≤ s' ∧ s' ≤ i) : ImS W w' Fr bp a bm bv gm gp gf ao fl cap L0' N' L' M s' i := by
  obtain ⟨⟨f1, f2, f3, f4⟩, _⟩ := h.far
  have fr := fun j hj => h.fr j hj
  exact ⟨p, h.fr, h.box.of (k.2 a ⟨fr a (by simp [Own6]), f1⟩), hm, Vm.MapIs.of Vm.encV h.val (k.2 bv ⟨fr bv (by simp [Own6]), h.ne.symm⟩), h.ne, h.lm, h.lv, h1, h2, h.srtM, h.lenM, h3, h4, h5, h6, (k.cell ⟨fr gm (by simp [Own6]), f2⟩).trans h.cm, (k.cell ⟨fr gp (by simp [Own6]), f3⟩).trans h.cp, (k.cell ⟨fr gf (by simp [Own6]), f4⟩).trans h.cf⟩
/-- Behind a value's being put. -/
theorem ImS.valued {M' : Kvs} (h : ImS W w Fr bp a bm bv gm gp gf ao fl cap L0 N L M s i) (hv : Vm.MapIs Vm.encV w' bv M') (hg : w.grownBy w' (some bv)) (h1 : Srt kyInt M') (h2 : M'.length ≤ i) : ImS W w' Fr bp a bm bv gm gp gf ao fl cap L0 N L M' s i := by
  obtain ⟨_, f1, f2, f3, f4⟩ := h.far
  have k : ∀ j, Own6 a bm bv gm gp gf j → j ≠ bv → w'.heap[j]? = w.heap[j]? := fun j hj hn => hg.block j (h.pq.low j (h.fr j hj)) fun e => hn (by cases e; rfl)
  have c : ∀ j o, Own6 a bm bv gm gp gf j → j ≠ bv → w'.cell? ⟨j, o, none⟩ = w.cell? ⟨j, o, none⟩ := fun j o hj hn => World.cell?_of_block (w := w) (a := ⟨j, o, none⟩) (k j hj hn)
  refine ⟨h.pq.turn (F := fun j => j = bv) (fun j hj => by subst hj; exact ⟨h.fr _ (by simp [Own6]), h.lv⟩) (fun j x hj hx => by subst hj; rw [Vm.MapIs.noCell Vm.encV h.val] at hx; cases hx) hg.size (fun j hj hn => hg.block j hj fun e => hn (by cases e; rfl))
    (Mv.below (S := fun j => j = bv) (S' := fun j => j = bv) ⟨hg.os, hg.tape, hg.output, hg.size, fun j hj hn => hg.block j hj fun e => hn (by cases e; rfl), fun j hj => .inl hj⟩ h.pq.be (fun j hj => by subst hj; exact h.lv)), h.fr, h.box.of (k _ (by simp [Own6]) f1), h.map.of _ (k _ (by simp [Own6]) h.ne), hv, h.ne, h.lm, h.lv, h.srt, h.len, h1, h2, h.b, h.u, h.n, h.s, (c _ _ (by simp [Own6]) f2).trans h.cm, (c _ _ (by simp [Own6]) f3).trans h.cp, (c _ _ (by simp [Own6]) f4).trans h.cf⟩
/-- One is minted: the balance and the supply are one more. -/
theorem mint_one {B : BKs} (hB : Good B) {s : Int} (hb : bal B (0, 2) = s) (hu : sup B 0 = s) (hs : 0 ≤ s ∧ s ≤ 100) : mintE B 0 2 1 = 0 ∧ bal (mintL B 0 2 1) (0, 2) = s + 1 ∧ sup (mintL B 0 2 1) 0 = s + 1 := by
  have hc : chk 0 [2] 1 = 0 := by decide
  have hin : In (sup B 0 + 1) := by rw [hu]; unfold In; omega
  have hE : mintE B 0 2 1 = 0 := by unfold mintE; rw [if_neg (by rw [hc]; simp), if_pos hin]
  have hk : Kin (0, 2) := by unfold Kin; decide
  have eL : mintL B 0 2 1 = addB (0, 2) 1 B := by unfold mintL; rw [if_pos hE]
  refine ⟨hE, ?_, ?_⟩
  · rw [eL]
    unfold addB
    rw [bal_putB hB.1, if_pos rfl, nm_val (add_in hk in_one (by rw [show ((0 : Int), (2 : Int)).1 = 0 from rfl]; exact hin)), hb]
  · rw [eL, sup_addB hB.1 hk in_one hin, if_pos rfl, hu]
end
end Go.Proofs.Ytncnilplmklccaa.Im
