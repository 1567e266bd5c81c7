/- A map of numbers beside a pair's books: the map in memory; find, Get, Len and New over this translation. -/
import Derived.Test.YtncnilplmklccaaPrLives
import Derived.Test.YtncnilplmklccaaImMap
namespace Go.Proofs.Ytncnilplmklccaa.Im
set_option linter.unusedSimpArgs false
set_option linter.unusedVariables false
set_option linter.unusedSectionVars false
open Go.RowKit Go.Lib
attribute [local go_sem] setCell_drewN alloc_drewN

/-- Maps of numbers under numbers. -/
def entR : Value → Option (DataW Unit × List MemPlace)
  | .agg cs => match cs.toList with
    | [.int .i64 a, .int .i64 b] => some (.agg [.lit (.int .i64 a), .lit (.int .i64 b)], [])
    | _ => none
  | _ => none
theorem entR_inv {v : Value} {y : DataW Unit × List MemPlace} (h : entR v = some y) : ∃ x : Int × Int, v = .agg #[.int .i64 x.1, .int .i64 x.2] ∧ y.1 = .agg [.lit (.int .i64 x.1), .lit (.int .i64 x.2)] := by
  unfold entR at h
  split at h
  · rename_i cs
    split at h
    · rename_i a b e
      cases h
      refine ⟨(a, b), ?_, rfl⟩
      rw [← Array.toArray_toList (xs := cs), e]
    · cases h
  · cases h
theorem zeroEnt (w : World) : (zeroValue 86).run Try.prog w = .ok (.agg #[.int .i64 0, .int .i64 0]) w := by kernel_rfl
def encS : Enc Try.prog Int Int where
  T := 82
  K := 3
  E := 86
  keyed := Go.Maps.int_keyed Try.underlying3
  ht := Try.underlying82
  ok k := (Lit.int .i64 k).wf = true
  kv := Value.int .i64
  kl := Lit.int .i64
  key _ h := Maps.keyOf_int_mk Try.underlying3 h
  inv h := Maps.keyOf_int_inv Try.underlying3 h
  inj _ _ h := by injection h
  ev x := .agg #[.int .i64 x.1, .int .i64 x.2]
  dv x := .agg [.lit (.int .i64 x.1), .lit (.int .i64 x.2)]
  R := entR
  rd _ := rfl
  rinv h := entR_inv h
  dinj h := by
    injection h with h
    injection h with h1 h2
    injection h2 with h2
    injection h1 with h1
    injection h2 with h2
    injection h1 with _ h1
    injection h2 with _ h2
    exact Prod.ext h1 h2
  z0 := (0, 0)
  zero := zeroEnt
/-- 'len(m)' where the walk stands. -/
theorem wpList_mlen (w : World) {ops : Array Oper} {rest : List Oper} {o : Oper} {a : Act} {Q : Exit → Act → World → Prop} (hg : o.guard = none) (m : Operand)
    (hop : o.op = Op.call { callee := Callee.builtin Builtin.len, args := #[m], argTypes := #[82] }) {b : Nat} {L : List (Int × Int)} (hm : a.eval m = .map (some b)) (h : MapIs encS w b L)
    (hK : wpList Try.prog ops Q rest (a.put o.dst (.int .i64 L.length)) w) : wpList Try.prog ops Q (o :: rest) a w := by
  refine wpList_plain hg fun K' hK' => ?_
  have := h.len encS o.type
  unfold Oper.wp
  simp only [encS] at this
  simp [execOp, hop, resolve, invoke, builtin, hm, this, Result.andThen]
  exact hK' _ _ hK
/-- What a look-up gives: the entry's key, its value, and whether there is one. -/
def fk (k : Int) (L : List (Int × Int)) : Int := (atL encS k L).1
def fv (k : Int) (L : List (Int × Int)) : Int := (atL encS k L).2
def fh (k : Int) (L : List (Int × Int)) : Bool := (getL k L).isSome
theorem fk_some {k v : Int} {L : List (Int × Int)} (h : getL k L = some v) : fk k L = k ∧ fv k L = v ∧ fh k L = true := by simp [fk, fv, fh, atL, h]
theorem fk_none {k : Int} {L : List (Int × Int)} (h : getL k L = none) : fk k L = 0 ∧ fv k L = 0 ∧ fh k L = false := by simp [fk, fv, fh, atL, h, encS]
/-- 'v, ok := m[k]' where the walk stands. -/
theorem wpList_mlook (w : World) {ops : Array Oper} {rest : List Oper} {o : Oper} {a : Act} {Q : Exit → Act → World → Prop} (hg : o.guard = none) (m x : Operand)
    (hop : o.op = Op.lookup 82 m x true) {b : Nat} {L : List (Int × Int)} {k : Int} (hm : a.eval m = .map (some b)) (hx : a.eval x = .int .i64 k) (h : MapIs encS w b L) (hL : Srt kyInt L) (hk : (Lit.int .i64 k).wf = true)
    (hK : wpList Try.prog ops Q rest (a.put o.dst (.tuple #[.agg #[.int .i64 (fk k L), .int .i64 (fv k L)], .bool (fh k L)])) w) : wpList Try.prog ops Q (o :: rest) a w := by
  refine wpList_plain hg fun K' hK' => ?_
  have := h.look encS kyInt hL (k := k) hk
  unfold Oper.wp
  simp only [encS] at this
  simp [execOp, hop, hm, hx, this, Result.andThen]
  exact hK' _ _ hK
/-- Rows of numbers under numbers. -/
abbrev Kvs := List (Int × Int)
/-- The cells of a map's box. -/
structure MapBox (w : World) (a bj bm : Nat) : Prop where
  c0 : w.cell? ⟨a, 0, none⟩ = some (.pointer (some ⟨bj, 0, none⟩))
  c1 : w.cell? ⟨a, 1, none⟩ = some (.func (.func 16) #[] #[])
  c2 : w.cell? ⟨a, 2, none⟩ = some (.map (some bm))
theorem MapBox.of {w w' : World} {a bj bm : Nat} (h : MapBox w a bj bm) (hb : w'.heap[a]? = w.heap[a]?) : MapBox w' a bj bm :=
  ⟨(World.cell?_of_block (w := w) (a := ⟨a, 0, none⟩) hb).trans h.c0, (World.cell?_of_block (w := w) (a := ⟨a, 1, none⟩) hb).trans h.c1, (World.cell?_of_block (w := w) (a := ⟨a, 2, none⟩) hb).trans h.c2⟩
/-- A map's block is none with cells. -/
theorem mne {w : World} {b c o : Nat} {v : Value} {L : Kvs} (h : MapIs encS w b L) (hc : w.cell? ⟨c, o, none⟩ = some v) : b ≠ c := fun e => by
  subst e
  rw [h.noCell] at hc
  cases hc
/-- The deferred recover, where nothing has panicked. -/
theorem idle_any (w : World) :
    CallsD Try.prog 56 #[] .returning w fun e u' w' => e = .returned (.tuple #[]) ∧ u' = .returning ∧ w' = w := by
  refine callsD_of_wpS Try.func56 rfl fun c₀ cs hu => ?_
  apply wpS_region
  simp [wpOpsS, go_sem, recoverD, hu, Try.ntmps56, Exit.thenS, bodyPostS, results, Try.results56]
  cases c₀
  simp_all
theorem findable_any (k : Int) (w : World) :
    Calls Try.prog 38 #[.int .i64 k] w fun e w' => e = .returned (.bool true) ∧ w' = w := by
  have hmf : ∀ (fn : Fn) (first cap : Array Value) (w : World), (Instr.makeFunc fn first cap).run Try.prog w = .ok (.func fn first cap) w := fun _ _ _ _ => rfl
  go_enter_defers Try.func38, Try.ntmps38
  go_wp2
  refine leaves_cons (f := 56) (args := #[]) (by simp) (by simp [go_sem]) ?_
  refine (idle_any _).mono ?_
  rintro e u' w'' ⟨rfl, rfl, rfl⟩
  simp [Leaves, settle, results, Try.results38, go_sem]
theorem mlen_any {w : World} {a bm : Nat} {L : Kvs} (c2 : w.cell? ⟨a, 2, none⟩ = some (.map (some bm))) (hm : MapIs encS w bm L) :
    Calls Try.prog 22 #[.pointer (some ⟨a, 0, none⟩)] w fun e w' => e = .returned (.int .i64 L.length) ∧ w' = w := by
  go_enter Try.func22, Try.ntmps22
  go_wp2_with (at_len; refine wpList_mlen _ rfl _ rfl rfl hm ?_)
  go_ret
  exact ⟨rfl, rfl⟩
theorem snew_any (w : World) (bj : Nat) :
    Calls Try.prog 14 #[.pointer (some ⟨bj, 0, none⟩), .func (.func 16) #[] #[]] w fun e w' => e = .returned (.pointer (some ⟨w.heap.size + 1, 0, none⟩)) ∧ Below w.heap.size w w' ∧ w'.heap.size = w.heap.size + 2 ∧ MapBox w' (w.heap.size + 1) bj w.heap.size ∧ MapIs encS w' w.heap.size [] := by
  have hmm := @run_makeMap Try.prog
  obtain ⟨w1, hw1⟩ : ∃ w1, (w.alloc (.map #[] 0)).alloc (.cells #[.pointer (some ⟨bj, 0, none⟩), .func (.func 16) #[] #[], .map (some w.heap.size)] 84) = w1 := ⟨_, rfl⟩
  have HB : Hid (Below w.heap.size w w1 ∧ w1.heap.size = w.heap.size + 2 ∧ MapBox w1 (w.heap.size + 1) bj w.heap.size ∧ MapIs encS w1 w.heap.size []) := by
    rw [← hw1]
    exact ⟨bAl (bAl (bMe w)), by simp, ⟨by simp [go_sem], by simp [go_sem], by simp [go_sem]⟩, (MapIs.made encS w).of _ (Below.heap_alloc _ _ _ (by simp))⟩
  have HW := hide hw1
  clear hw1
  go_enter Try.func14, Try.ntmps14
  go_wp2
  go_ret
  rw [HW.out]
  exact ⟨rfl, HB.out⟩
theorem find_any {w : World} {a bm : Nat} {L : Kvs} (c2 : w.cell? ⟨a, 2, none⟩ = some (.map (some bm))) (hm : MapIs encS w bm L) (hL : Srt kyInt L) {k : Int} (hk : (Lit.int .i64 k).wf = true) :
    Calls Try.prog 39 #[.pointer (some ⟨a, 0, none⟩), .int .i64 k] w fun e w' => e = .returned (.tuple #[.agg #[.int .i64 (fk k L), .int .i64 (fv k L)], .bool (fh k L)]) ∧ Below w.heap.size w w' := by
  have la := cell_lt c2
  have lb := hm.lt
  have HM : Hid (∀ w', Below w.heap.size w w' → MapIs encS w' bm L) := fun w' hb => hm.of _ (hb.block _ lb)
  clear hm
  have hL' := hide hL
  clear hL
  have hx : a ≠ w.heap.size := by omega
  go_enter Try.func39, Try.ntmps39
  go_wp2_with (first
    | (go_at_call 38; refine (findable_any _ _).mono ?_; rintro e w' ⟨rfl, rfl⟩)
    | (at_lookup; refine wpList_mlook _ rfl _ _ rfl rfl rfl (HM.out _ ?_) hL'.out hk ?_))
  · exact bAl (bMe w)
  · exact bodyPost_ret (v := .tuple #[.agg #[.int .i64 (fk k L), .int .i64 (fv k L)], .bool (fh k L)]) (by simp [results, Try.results39, go_sem]) rfl ⟨rfl, bAl (bAl (bMe w))⟩
theorem get_any {w : World} {a bm : Nat} {L : Kvs} (c2 : w.cell? ⟨a, 2, none⟩ = some (.map (some bm))) (hm : MapIs encS w bm L) (hL : Srt kyInt L) {k : Int} (hk : (Lit.int .i64 k).wf = true) :
    Calls Try.prog 21 #[.pointer (some ⟨a, 0, none⟩), .int .i64 k] w fun e w' => e = .returned (.tuple #[.int .i64 (fv k L), .bool (fh k L)]) ∧ Below w.heap.size w w' := by
  have F := find_any c2 hm hL hk
  clear hm hL c2
  go_enter Try.func21, Try.ntmps21
  go_wp2_with (go_at_call 39; refine F.mono ?_; clear F; rintro e w1 ⟨rfl, hb⟩)
  go_ret2
  exact ⟨rfl, bAl hb⟩
end Go.Proofs.Ytncnilplmklccaa.Im
