/- A journal and its maps in memory (stage.Map[int, int]). -/
import Derived.Test.YtnjijnphjiiceaaStgMap
import Derived.Test.YtnjijnphjiiceaaMv
import Derived.Test.YtnjijnphjiiceaaHide
import Derived.Maps.AppendAt
namespace Go.Proofs.Ytnjijnphjiiceaa
set_option linter.unusedSimpArgs false
set_option linter.unusedVariables false
set_option linter.unusedSectionVars false
open Go.RowKit Go.Lib

/-- Maps of numbers under numbers. -/
def entR : Value → Option (DataW Unit × List MemPlace)
  | .agg cs => match cs.toList with
    | [.int .i64 a, .int .i64 b] => some (.agg [.lit (.int .i64 a), .lit (.int .i64 b)], [])
    | _ => none
  | _ => none
theorem entR_inv {v : Value} {y : DataW Unit × List MemPlace} (h : entR v = some y) : ∃ x : Int × Int, v = .agg #[.int .i64 x.1, .int .i64 x.2] ∧ y.1 = .agg [.lit (.int .i64 x.1), .lit (.int .i64 x.2)] := by
  unfold entR at h
  split at h
  · rename_i cs
    split at h
    · rename_i a b e
      cases h
      refine ⟨(a, b), ?_, rfl⟩
      rw [← Array.toArray_toList (xs := cs), e]
    · cases h
  · cases h
theorem zeroEnt (w : World) : (zeroValue 64).run Try.prog w = .ok (.agg #[.int .i64 0, .int .i64 0]) w := by kernel_rfl
def encS : Enc Try.prog Int Int where
  T := 60
  K := 3
  E := 64
  keyed := Go.Maps.int_keyed Try.underlying3
  ht := Try.underlying60
  ok k := (Lit.int .i64 k).wf = true
  kv := Value.int .i64
  kl := Lit.int .i64
  key _ h := Maps.keyOf_int_mk Try.underlying3 h
  inv h := Maps.keyOf_int_inv Try.underlying3 h
  inj h := by injection h
  ev x := .agg #[.int .i64 x.1, .int .i64 x.2]
  dv x := .agg [.lit (.int .i64 x.1), .lit (.int .i64 x.2)]
  R := entR
  rd _ := rfl
  rinv h := entR_inv h
  dinj h := by
    injection h with h
    injection h with h1 h2
    injection h2 with h2
    injection h1 with h1
    injection h2 with h2
    injection h1 with _ h1
    injection h2 with _ h2
    exact Prod.ext h1 h2
  z0 := (0, 0)
  zero := zeroEnt
/-- 'len(m)' where the walk stands. -/
theorem wpList_mlen (w : World) {ops : Array Oper} {rest : List Oper} {o : Oper} {a : Act} {Q : Exit → Act → World → Prop} (hg : o.guard = none) (m : Operand)
    (hop : o.op = Op.call { callee := Callee.builtin Builtin.len, args := #[m], argTypes := #[60] }) {b : Nat} {L : List (Int × Int)} (hm : a.eval m = .map (some b)) (h : MapIs encS w b L)
    (hK : wpList Try.prog ops Q rest (a.put o.dst (.int .i64 L.length)) w) : wpList Try.prog ops Q (o :: rest) a w := by
  refine wpList_plain hg fun K' hK' => ?_
  have := h.len encS o.type
  unfold Oper.wp
  simp only [encS] at this
  simp [execOp, hop, resolve, invoke, builtin, hm, this, Result.andThen]
  exact hK' _ _ hK
/-- What a look-up gives: the entry's key, its value, and whether there is one. -/
def fk (k : Int) (L : List (Int × Int)) : Int := (atL encS k L).1
def fv (k : Int) (L : List (Int × Int)) : Int := (atL encS k L).2
def fh (k : Int) (L : List (Int × Int)) : Bool := (getL k L).isSome
theorem fk_some {k v : Int} {L : List (Int × Int)} (h : getL k L = some v) : fk k L = k ∧ fv k L = v ∧ fh k L = true := by simp [fk, fv, fh, atL, h]
theorem fk_none {k : Int} {L : List (Int × Int)} (h : getL k L = none) : fk k L = 0 ∧ fv k L = 0 ∧ fh k L = false := by simp [fk, fv, fh, atL, h, encS]
/-- 'v, ok := m[k]' where the walk stands. -/
theorem wpList_mlook (w : World) {ops : Array Oper} {rest : List Oper} {o : Oper} {a : Act} {Q : Exit → Act → World → Prop} (hg : o.guard = none) (m x : Operand)
    (hop : o.op = Op.lookup 60 m x true) {b : Nat} {L : List (Int × Int)} {k : Int} (hm : a.eval m = .map (some b)) (hx : a.eval x = .int .i64 k) (h : MapIs encS w b L) (hL : Srt kyInt L) (hk : (Lit.int .i64 k).wf = true)
    (hK : wpList Try.prog ops Q rest (a.put o.dst (.tuple #[.agg #[.int .i64 (fk k L), .int .i64 (fv k L)], .bool (fh k L)])) w) : wpList Try.prog ops Q (o :: rest) a w := by
  refine wpList_plain hg fun K' hK' => ?_
  have := h.look encS kyInt hL (k := k) hk
  unfold Oper.wp
  simp only [encS] at this
  simp [execOp, hop, hm, hx, this, Result.andThen]
  exact hK' _ _ hK
/-- Rows of numbers under numbers. -/
abbrev Kvs := List (Int × Int)
abbrev Deeds := List (Deed Int Int)
/-- What takes a deed back, as a function value: its boxes lie among Z. -/
def DeedAt (w : World) (Z : Nat → Prop) (d : Deed Int Int) (u : Value) : Prop :=
  (∃ h o m k : Nat, u = .func (.func 28) #[] #[.pointer (some ⟨h, 0, none⟩), .pointer (some ⟨o, 0, none⟩), .pointer (some ⟨m, 0, none⟩), .pointer (some ⟨k, 0, none⟩)] ∧ (Z h ∧ Z o ∧ Z m ∧ Z k) ∧
    w.cell? ⟨h, 0, none⟩ = some (.bool d.old.isSome) ∧ (∀ v, d.old = some v → w.cell? ⟨o, 0, none⟩ = some (.int .i64 d.k) ∧ w.cell? ⟨o, 1, none⟩ = some (.int .i64 v)) ∧ w.cell? ⟨m, 0, none⟩ = some (.pointer (some ⟨d.m, 0, none⟩)) ∧ w.cell? ⟨k, 0, none⟩ = some (.int .i64 d.k)) ∨
  (∃ o m k v, u = .func (.func 29) #[] #[.pointer (some ⟨o, 0, none⟩), .pointer (some ⟨m, 0, none⟩), .pointer (some ⟨k, 0, none⟩)] ∧ (Z o ∧ Z m ∧ Z k) ∧
    d.old = some v ∧ (w.cell? ⟨o, 0, none⟩ = some (.int .i64 d.k) ∧ w.cell? ⟨o, 1, none⟩ = some (.int .i64 v)) ∧ w.cell? ⟨m, 0, none⟩ = some (.pointer (some ⟨d.m, 0, none⟩)) ∧ w.cell? ⟨k, 0, none⟩ = some (.int .i64 d.k))
theorem DeedAt.of {w w' : World} {Z Z' : Nat → Prop} {d : Deed Int Int} {u : Value} (h : DeedAt w Z d u) (hz : ∀ k, Z k → w'.heap[k]? = w.heap[k]?) (hZ : ∀ k, Z k → Z' k) : DeedAt w' Z' d u := by
  have cz : ∀ k o, Z k → w'.cell? ⟨k, o, none⟩ = w.cell? ⟨k, o, none⟩ := fun k o hk => World.cell?_of_block (w := w) (a := ⟨k, o, none⟩) (hz k hk)
  rcases h with ⟨hh, o, m, k, rfl, ⟨z1, z2, z3, z4⟩, c1, c2, c3, c4⟩ | ⟨o, m, k, v, rfl, ⟨z2, z3, z4⟩, e, c2, c3, c4⟩
  · refine .inl ⟨hh, o, m, k, rfl, ⟨hZ _ z1, hZ _ z2, hZ _ z3, hZ _ z4⟩, (cz _ _ z1).trans c1, fun v hv => ?_, (cz _ _ z3).trans c3, (cz _ _ z4).trans c4⟩
    exact ⟨(cz _ _ z2).trans (c2 v hv).1, (cz _ _ z2).trans (c2 v hv).2⟩
  · exact .inr ⟨o, m, k, v, rfl, ⟨hZ _ z2, hZ _ z3, hZ _ z4⟩, e, ⟨(cz _ _ z2).trans c2.1, (cz _ _ z2).trans c2.2⟩, (cz _ _ z3).trans c3, (cz _ _ z4).trans c4⟩
/-- The cells of a map's box. -/
structure MapBox (w : World) (a bj bm : Nat) : Prop where
  c0 : w.cell? ⟨a, 0, none⟩ = some (.pointer (some ⟨bj, 0, none⟩))
  c1 : w.cell? ⟨a, 1, none⟩ = some (.func (.func 8) #[] #[])
  c2 : w.cell? ⟨a, 2, none⟩ = some (.map (some bm))
theorem MapBox.of {w w' : World} {a bj bm : Nat} (h : MapBox w a bj bm) (hb : w'.heap[a]? = w.heap[a]?) : MapBox w' a bj bm :=
  ⟨(World.cell?_of_block (w := w) (a := ⟨a, 0, none⟩) hb).trans h.c0, (World.cell?_of_block (w := w) (a := ⟨a, 1, none⟩) hb).trans h.c1, (World.cell?_of_block (w := w) (a := ⟨a, 2, none⟩) hb).trans h.c2⟩
/-- Functions, in a row of a call's own. -/
abbrev FRow (w : World) (v : Value) (us : List Value) : Prop := w.ownsRow 0 1 1 v us.length us
theorem FRow.of {w w' : World} {v : Value} {us : List Value} (h : FRow w v us) (hb : ∀ k, v.ownBlock = some k → w'.heap[k]? = w.heap[k]?) : FRow w' v us := by
  refine ⟨h.1, ?_⟩
  rcases h.2 with hn | ⟨g, cap, cur, rfl, hB, hg, r⟩
  · exact .inl hn
  · exact .inr ⟨g, cap, cur, rfl, hB, by rw [hb g rfl]; exact hg, r⟩
/-- The journal in block bj, with these deeds, and its maps: A their boxes, mb their maps' blocks, X what they have. S: the blocks that are its own; Z: those of them that never turn. -/
structure St (w : World) (S Z : Nat → Prop) (bj : Nat) (A : List Nat) (mb : Nat → Nat) (X : Nat → Kvs) (ds : Deeds) : Prop where
  low : ∀ k, S k → k < w.heap.size
  stat : ∀ k, Z k → S k
  jS : S bj
  jZ : ¬ Z bj
  jf : ∀ o, w.frozen? ⟨bj, o, none⟩ = false
  row : ∃ v us, w.cell? ⟨bj, 0, none⟩ = some v ∧ FRow w v us ∧ (∀ b, v.ownBlock = some b → S b ∧ ¬ Z b ∧ b ≠ bj) ∧ us.length = ds.length ∧ ∀ (i : Nat) d, ds[i]? = some d → ∃ u, us[i]? = some u ∧ DeedAt w Z d u
  box : ∀ a, a ∈ A → Z a ∧ S (mb a) ∧ MapBox w a bj (mb a)
  map : ∀ a, a ∈ A → MapIs encS w (mb a) (X a)
  inj : ∀ a b, a ∈ A → b ∈ A → mb a = mb b → a = b
  srt : ∀ a, Srt kyInt (X a)
  mine : ∀ d, d ∈ ds → d.m ∈ A ∧ (Lit.int .i64 d.k).wf = true
theorem cells_of_cellS {w : World} {b o : Nat} {v : Value} (h : w.cell? ⟨b, o, none⟩ = some v) : ∃ cs t f, w.heap[b]? = some (.cells cs t f) := by
  unfold World.cell? at h
  split at h
  · exact ⟨_, _, _, by assumption⟩
  · cases h
/-- A map's block is none with cells. -/
theorem MapIs.ne {w : World} {b c o : Nat} {v : Value} {L : Kvs} (h : MapIs encS w b L) (hc : w.cell? ⟨c, o, none⟩ = some v) : b ≠ c := fun e => by
  subst e
  rw [h.noCell] at hc
  cases hc
theorem FRow.noMap {w : World} {v : Value} {us : List Value} {g b : Nat} {L : Kvs} (h : FRow w v us) (hg : v.ownBlock = some g) (hm : MapIs encS w b L) : b ≠ g := fun e => by
  subst e
  rcases h.2 with ⟨rfl, _⟩ | ⟨g', cap, cur, rfl, hB, hg', r⟩
  · simp [Value.ownBlock] at hg
  · simp only [Value.ownBlock, Option.some.injEq] at hg
    subst hg
    obtain ⟨es, ⟨xs, clock, hx, _⟩, _⟩ := hm
    rw [hx] at hg'
    cases hg'
theorem St.of {w w' : World} {S Z : Nat → Prop} {bj : Nat} {A : List Nat} {mb : Nat → Nat} {X : Nat → Kvs} {ds : Deeds} (h : St w S Z bj A mb X ds) (hs : w.heap.size ≤ w'.heap.size) (hb : ∀ k, S k → w'.heap[k]? = w.heap[k]?) : St w' S Z bj A mb X ds := by
  obtain ⟨low, stat, jS, jZ, jf, ⟨v, us, r1, r2, r3, r4, r5⟩, box, map, inj, srt, mine⟩ := h
  refine ⟨fun k hk => Nat.lt_of_lt_of_le (low k hk) hs, stat, jS, jZ, fun o => (World.frozen?_of_block (w := w) (a := ⟨bj, o, none⟩) (hb bj jS)).trans (jf o),
    ⟨v, us, (World.cell?_of_block (w := w) (a := ⟨bj, 0, none⟩) (hb bj jS)).trans r1, r2.of fun b hb' => hb b (r3 b hb').1, r3, r4, fun i d hd => ?_⟩, fun a ha => ?_, fun a ha => (map a ha).of _ (hb _ (box a ha).2.1), inj, srt, mine⟩
  · obtain ⟨u, hu, hd'⟩ := r5 i d hd
    exact ⟨u, hu, hd'.of (fun k hk => hb k (stat k hk)) fun _ hk => hk⟩
  · obtain ⟨b1, b2, b3⟩ := box a ha
    exact ⟨b1, b2, b3.of (hb a (stat a b1))⟩
theorem St.below {w w' : World} {S Z : Nat → Prop} {bj : Nat} {A : List Nat} {mb : Nat → Nat} {X : Nat → Kvs} {ds : Deeds} (h : St w S Z bj A mb X ds) (hb : Below w.heap.size w w') : St w' S Z bj A mb X ds :=
  h.of hb.size fun k hk => hb.block k (h.low k hk)
/-- One of the maps turns. -/
theorem St.turn {w w' : World} {S Z : Nat → Prop} {bj : Nat} {A : List Nat} {mb : Nat → Nat} {X : Nat → Kvs} {ds : Deeds} (h : St w S Z bj A mb X ds) {a : Nat} (ha : a ∈ A) {L : Kvs} (hm : MapIs encS w' (mb a) L) (hL : Srt kyInt L) (hg : w.grownBy w' (some (mb a))) :
    St w' S Z bj A mb (upX X a L) ds ∧ Mv S S w w' := by
  obtain ⟨low, stat, jS, jZ, jf, ⟨v, us, r1, r2, r3, r4, r5⟩, box, map, inj, srt, mine⟩ := h
  have nj : bj ≠ mb a := ((map a ha).ne r1).symm
  have ne : ∀ k o u, w.cell? ⟨k, o, none⟩ = some u → w'.heap[k]? = w.heap[k]? := fun k o u hc => hg.block k (by obtain ⟨cs, t, f, e⟩ := cells_of_cellS hc; exact (Array.getElem?_eq_some_iff.1 e).1) (fun e => by cases e; exact (map a ha).ne hc rfl)
  have hfr : ∀ o, w'.frozen? ⟨bj, o, none⟩ = false := fun o => (World.frozen?_of_block (w := w) (a := ⟨bj, o, none⟩) (ne bj 0 v r1)).trans (jf o)
  refine ⟨⟨fun k hk => Nat.lt_of_lt_of_le (low k hk) hg.size, stat, jS, jZ, hfr, ⟨v, us, (World.cell?_of_block (w := w) (a := ⟨bj, 0, none⟩) (ne bj 0 v r1)).trans r1, r2.of fun b hb' => ?_, r3, r4, fun i d hd => ?_⟩, fun b hb => ?_, fun b hb => ?_, inj, fun b => ?_, mine⟩,
    ⟨hg.os, hg.tape, hg.output, hg.size, fun k hk hne => hg.block k hk fun e => by cases e; exact hne (box a ha).2.1, fun k hk => .inl hk⟩⟩
  · exact hg.block b (low b (r3 b hb').1) fun e => by cases e; exact r2.noMap hb' (map a ha) rfl
  · obtain ⟨u, hu, hd'⟩ := r5 i d hd
    refine ⟨u, hu, ?_⟩
    rcases hd' with ⟨hh, o, m, k, rfl, ⟨z1, z2, z3, z4⟩, c1, c2, c3, c4⟩ | ⟨o, m, k, x, rfl, ⟨z2, z3, z4⟩, e, c2, c3, c4⟩
    · have cz : ∀ k o u, w.cell? ⟨k, o, none⟩ = some u → w'.cell? ⟨k, o, none⟩ = some u := fun k o u hc => (World.cell?_of_block (w := w) (a := ⟨k, o, none⟩) (ne k o u hc)).trans hc
      exact .inl ⟨hh, o, m, k, rfl, ⟨z1, z2, z3, z4⟩, cz _ _ _ c1, fun x hx => ⟨cz _ _ _ (c2 x hx).1, cz _ _ _ (c2 x hx).2⟩, cz _ _ _ c3, cz _ _ _ c4⟩
    · have cz : ∀ k o u, w.cell? ⟨k, o, none⟩ = some u → w'.cell? ⟨k, o, none⟩ = some u := fun k o u hc => (World.cell?_of_block (w := w) (a := ⟨k, o, none⟩) (ne k o u hc)).trans hc
      exact .inr ⟨o, m, k, x, rfl, ⟨z2, z3, z4⟩, e, ⟨cz _ _ _ c2.1, cz _ _ _ c2.2⟩, cz _ _ _ c3, cz _ _ _ c4⟩
  · obtain ⟨b1, b2, b3⟩ := box b hb
    exact ⟨b1, b2, b3.of (ne b 0 _ b3.c0)⟩
  · by_cases e : b = a
    · subst e; rw [upX_same]; exact hm
    · rw [upX_other X e]
      exact (map b hb).of _ (hg.block _ (map b hb).lt fun e' => e (inj b a hb ha (Option.some.inj e')))
  · by_cases e : b = a
    · subst e; rw [upX_same]; exact hL
    · rw [upX_other X e]; exact srt b
end Go.Proofs.Ytnjijnphjiiceaa
