/- A journal and its maps in memory (stage.Map[book.Key, api.Int]). -/
import Derived.Test.YtncnilplmklccaaStgMap
import Derived.Test.YtncnilplmklccaaMv
import Derived.Test.YtncnilplmklccaaHide
import Derived.Test.YtncnilplmklccaaHugeBase
import Derived.Maps.AppendAt
import Derived.DeepKeys4
namespace Go.Proofs.Ytncnilplmklccaa
set_option linter.unusedSimpArgs false
set_option linter.unusedVariables false
set_option linter.unusedSectionVars false
open Go.RowKit Go.Lib Go.WideShapes

/-- A token at a place. -/
abbrev Kk := Int × Int
/-- A number that can be held. -/
abbrev Nm := {n : Int // In n}
/-- A key's bytes are bytes. -/
def Kok (k : Kk) : Prop := (0 ≤ k.1 ∧ k.1 < 256) ∧ (0 ≤ k.2 ∧ k.2 < 256)
/-- By tokens, then by places. -/
def kyKey : Ky Kk where
  lt a b := decide (a.1 < b.1 ∨ (a.1 = b.1 ∧ a.2 < b.2))
  irr a := by simp
  tr h k := by simp at *; omega
  tri {a b} h k := by simp at *; exact Prod.ext (by omega) (by omega)
/-- Maps of numbers under keys. -/
def entR : Value → Option (DataW Unit × List MemPlace)
  | .agg cs => match cs.toList with
    | [.int .u8 a, .int .u8 b, .int .u64 c, .int .u64 d, .int .u64 e, .int .u64 f] =>
      if (0 ≤ c ∧ c < 18446744073709551616) ∧ (0 ≤ d ∧ d < 18446744073709551616) ∧ (0 ≤ e ∧ e < 18446744073709551616) ∧ (0 ≤ f ∧ f < 18446744073709551616) then
        some (.agg [.lit (.int .u8 a), .lit (.int .u8 b), .lit (.int .u64 c), .lit (.int .u64 d), .lit (.int .u64 e), .lit (.int .u64 f)], []) else none
    | _ => none
  | _ => none
/-- An entry as a value, and as it is read. -/
abbrev entV (x : Kk × Nm) : Value := .agg #[.int .u8 x.1.1, .int .u8 x.1.2, .int .u64 (lm x.2.1 0), .int .u64 (lm x.2.1 1), .int .u64 (lm x.2.1 2), .int .u64 (lm x.2.1 3)]
def entD (x : Kk × Nm) : DataW Unit := .agg [.lit (.int .u8 x.1.1), .lit (.int .u8 x.1.2), .lit (.int .u64 (lm x.2.1 0)), .lit (.int .u64 (lm x.2.1 1)), .lit (.int .u64 (lm x.2.1 2)), .lit (.int .u64 (lm x.2.1 3))]
theorem entR_mk (x : Kk × Nm) : entR (entV x) = some (entD x, []) := by
  simp only [entR, entD]
  rw [if_pos ⟨lm_bd _ _, lm_bd _ _, lm_bd _ _, lm_bd _ _⟩]
theorem entR_inv {v : Value} {y : DataW Unit × List MemPlace} (h : entR v = some y) : ∃ x : Kk × Nm, v = entV x ∧ y.1 = entD x := by
  unfold entR at h
  split at h
  · rename_i cs
    split at h
    · rename_i a b c d e f hcs
      split at h
      · rename_i hb
        cases h
        obtain ⟨h0, h1, h2, h3⟩ := lm_four hb.1 hb.2.1 hb.2.2.1 hb.2.2.2
        refine ⟨((a, b), ⟨four c d e f, four_in hb.1 hb.2.1 hb.2.2.1 hb.2.2.2⟩), ?_, ?_⟩
        · rw [← Array.toArray_toList (xs := cs), hcs, entV, h0, h1, h2, h3]
        · rw [entD, h0, h1, h2, h3]
      · cases h
    · cases h
  · cases h
theorem entD_inj {x y : Kk × Nm} (h : entD x = entD y) : x = y := by
  obtain ⟨⟨x1, x2⟩, x3, hx⟩ := x
  obtain ⟨⟨y1, y2⟩, y3, hy⟩ := y
  simp only [entD, DataW.agg.injEq, List.cons.injEq, DataW.lit.injEq, Lit.int.injEq, true_and, and_true] at h
  obtain ⟨rfl, rfl, h0, h1, h2, h3⟩ := h
  obtain rfl := lm_inj hx hy h0 h1 h2 h3
  rfl
theorem zeroEnt (w : World) : (zeroValue 128).run Try.prog w = .ok (.agg #[.int .u8 0, .int .u8 0, .int .u64 0, .int .u64 0, .int .u64 0, .int .u64 0]) w := by kernel_rfl
theorem laidK : laidOutB Try.prog = true := by kernel_rfl
theorem rowK : (96 : TypeId) < Try.prog.types.size := of_decide_eq_true (by kernel_rfl)
theorem cellsK : Try.prog.cellsOf 96 = 2 := by kernel_rfl
theorem deepK : Try.prog.keyType 96 = true := by kernel_rfl
theorem wideK : (match Try.prog.underlying 96 with | some (.array _ _) | some (.struct _) => true | _ => false) = true := by rw [Try.underlying96]
theorem deepAt : Try.prog.keyTypeAt 2 96 = true := by kernel_rfl
set_option maxRecDepth 100000 in
theorem lawK : WideMaps.KeyLaw Try.prog 96 := deep_law_laid laidK (m := 2) (by omega) rowK deepAt wideK
theorem sizeK : ∃ m, Try.prog.types.size = m + 1 := ⟨Try.prog.types.size - 1, (Nat.sub_add_cancel (Nat.one_le_of_lt rowK)).symm⟩
theorem wf_u8 {a : Int} : (Lit.int .u8 a).wf = true ↔ 0 ≤ a ∧ a < 256 := by
  constructor
  · intro h
    have h1 : IntKind.u8.min = 0 := rfl
    have h2 : IntKind.u8.max = 255 := rfl
    simp only [Lit.wf, h1, h2, Bool.and_eq_true, decide_eq_true_eq] at h
    omega
  · intro h
    have h1 : IntKind.u8.min = 0 := rfl
    have h2 : IntKind.u8.max = 255 := rfl
    simp only [Lit.wf, h1, h2, Bool.and_eq_true, decide_eq_true_eq]
    omega
theorem isStructK : ∃ fs : Array Field, Try.prog.underlying 96 = some (.struct fs) ∧ fs.toList.map (fun f => (f.type, f.offset)) = [(5, 0), (5, 1)] ∧ fs.all (·.name != "_") = true := ⟨_, Try.underlying96, by decide, by simp⟩
set_option maxRecDepth 100000 in
theorem keyK {a b : Int} (wa : (Lit.int .u8 a).wf = true) (wb : (Lit.int .u8 b).wf = true) : keyOf Try.prog 96 (.agg #[.int .u8 a, .int .u8 b]) = some (.string (keyBytes [.int .u8 a, .int .u8 b])) := by
  obtain ⟨m, hm⟩ := sizeK
  have hu := Try.underlying96
  have h8 := Try.underlying5
  have c8 : Try.prog.cellsOf 5 = 1 := by kernel_rfl
  unfold keyOf
  simp only [hu]
  rw [if_pos (by simp [deepK, Value.formed, hu, cellsK]), hm]
  unfold Program.keyLits
  simp only [hu, Value.cells]
  rw [if_pos (by rw [cellsK]; simp)]
  obtain ⟨m, rfl⟩ : ∃ m0, m = m0 + 1 := ⟨m - 1, by have : 1 < Try.prog.types.size := of_decide_eq_true (by kernel_rfl); omega⟩
  simp [Program.keyLits, h8, wa, wb, c8]
theorem lits_int {P : Program} {t : TypeId} {q : IntKind} {d : Nat} {x : Value} {p : List Lit} (ht : P.underlying t = some (.int q)) (h : P.keyLits (d + 1) t [x] = some p) : ∃ n, x = .int q n ∧ p = [.int q n] ∧ (Lit.int q n).wf = true := by
  cases x <;> simp [Program.keyLits, ht] at h
  obtain ⟨⟨rfl, hw⟩, rfl⟩ := h
  exact ⟨_, rfl, rfl, hw⟩
set_option maxRecDepth 100000 in
theorem keyK_inv {v : Value} {l : Lit} (h : keyOf Try.prog 96 v = some l) : ∃ a b, v = .agg #[.int .u8 a, .int .u8 b] ∧ l = .string (keyBytes [.int .u8 a, .int .u8 b]) ∧ (Lit.int .u8 a).wf = true ∧ (Lit.int .u8 b).wf = true := by
  obtain ⟨xs, L, rfl, hl, rfl⟩ := keyOf_top wideK h
  clear h
  obtain ⟨m, hm⟩ := sizeK
  have hu := Try.underlying96
  have h8 := Try.underlying5
  have c8 : Try.prog.cellsOf 5 = 1 := by kernel_rfl
  rw [hm] at hl
  unfold Program.keyLits at hl
  simp only [hu] at hl
  split at hl
  · rename_i hc
    have hsz := hc.1
    rw [cellsK] at hsz
    obtain ⟨ls⟩ := xs
    match ls, hsz with
    | [x, y], _ =>
      obtain ⟨m, rfl⟩ : ∃ m0, m = m0 + 1 := ⟨m - 1, by have : 1 < Try.prog.types.size := of_decide_eq_true (by kernel_rfl); omega⟩
      simp [c8, Option.bind_eq_some_iff] at hl
      obtain ⟨p, hp, _, ⟨q, hq, rfl⟩, rfl⟩ := hl
      obtain ⟨a, rfl, rfl, wa⟩ := lits_int h8 hp
      obtain ⟨b, rfl, rfl, wb⟩ := lits_int h8 hq
      exact ⟨a, b, rfl, rfl, wa, wb⟩
  · cases hl
theorem keyBytes_inj {a b c d : Int} (wa : (Lit.int .u8 a).wf = true) (wb : (Lit.int .u8 b).wf = true) (wc : (Lit.int .u8 c).wf = true) (wd : (Lit.int .u8 d).wf = true) (h : keyBytes [.int .u8 a, .int .u8 b] = keyBytes [.int .u8 c, .int .u8 d]) : a = c ∧ b = d := by
  have e := lawK.inj (keyK wa wb) (by rw [h]; exact keyK wc wd)
  simp only [Value.agg.injEq, Array.mk.injEq, List.cons.injEq, Value.int.injEq, true_and, and_true] at e
  exact e
def encS : Enc Try.prog Kk Nm where
  T := 119
  K := 96
  E := 128
  keyed := Go.Maps.Keyed.of_law lawK
  ht := Try.underlying119
  ok k := (Lit.int .u8 k.1).wf = true ∧ (Lit.int .u8 k.2).wf = true
  kv k := .agg #[.int .u8 k.1, .int .u8 k.2]
  kl k := .string (keyBytes [.int .u8 k.1, .int .u8 k.2])
  key _ h := keyK h.1 h.2
  inv h := by
    obtain ⟨a, b, rfl, rfl, wa, wb⟩ := keyK_inv h
    exact ⟨(a, b), rfl, rfl, wa, wb⟩
  inj {a b} ha hb h := by
    injection h with h
    have e := keyBytes_inj ha.1 ha.2 hb.1 hb.2 h
    exact Prod.ext e.1 e.2
  ev := entV
  dv := entD
  R := entR
  rd x := entR_mk x
  rinv h := entR_inv h
  dinj h := entD_inj h
  z0 := ((0, 0), ⟨0, In.zero⟩)
  zero w := by
    have h0 : ∀ i, lm 0 i = 0 := lm_zero
    simp only [entV, h0]
    exact zeroEnt w
/-- 'len(m)' where the walk stands. -/
theorem wpList_mlen (w : World) {ops : Array Oper} {rest : List Oper} {o : Oper} {a : Act} {Q : Exit → Act → World → Prop} (hg : o.guard = none) (m : Operand)
    (hop : o.op = Op.call { callee := Callee.builtin Builtin.len, args := #[m], argTypes := #[119] }) {b : Nat} {L : List (Kk × Nm)} (hm : a.eval m = .map (some b)) (h : MapIs encS w b L)
    (hK : wpList Try.prog ops Q rest (a.put o.dst (.int .i64 L.length)) w) : wpList Try.prog ops Q (o :: rest) a w := by
  refine wpList_plain hg fun K' hK' => ?_
  have := h.len encS o.type
  unfold Oper.wp
  simp only [encS] at this
  simp [execOp, hop, resolve, invoke, builtin, hm, this, Result.andThen]
  exact hK' _ _ hK
/-- What a look-up gives: the entry's key, its value, and whether there is one. -/
def fk (k : Kk) (L : List (Kk × Nm)) : Kk := (atL encS k L).1
def fv (k : Kk) (L : List (Kk × Nm)) : Int := (atL encS k L).2.1
def fh (k : Kk) (L : List (Kk × Nm)) : Bool := (getL k L).isSome
theorem fk_some {k : Kk} {v : Nm} {L : List (Kk × Nm)} (h : getL k L = some v) : fk k L = k ∧ fv k L = v.1 ∧ fh k L = true := by simp [fk, fv, fh, atL, h]
theorem fk_none {k : Kk} {L : List (Kk × Nm)} (h : getL k L = none) : fk k L = (0, 0) ∧ fv k L = 0 ∧ fh k L = false := by simp [fk, fv, fh, atL, h, encS]
theorem kok {k : Kk} (h : Kok k) : encS.ok k := ⟨wf_u8.2 h.1, wf_u8.2 h.2⟩
/-- Block b holds these cells first. -/
def Cs (w : World) (b : Nat) (vs : List Value) : Prop := ∀ (i : Nat) v, vs[i]? = some v → w.cell? ⟨b, i, none⟩ = some v
theorem Cs.of {w w' : World} {b : Nat} {vs : List Value} (h : Cs w b vs) (hb : w'.heap[b]? = w.heap[b]?) : Cs w' b vs := fun i v hv => (World.cell?_of_block (w := w) (a := ⟨b, i, none⟩) hb).trans (h i v hv)
theorem Cs.two {w : World} {b : Nat} {x y : Value} (h : Cs w b [x, y]) : w.cell? ⟨b, 0, none⟩ = some x ∧ w.cell? ⟨b, 1, none⟩ = some y := ⟨h 0 _ rfl, h 1 _ rfl⟩
theorem Cs.six {w : World} {b : Nat} {x y z u v t : Value} (h : Cs w b [x, y, z, u, v, t]) : w.cell? ⟨b, 0, none⟩ = some x ∧ w.cell? ⟨b, 1, none⟩ = some y ∧ w.cell? ⟨b, 2, none⟩ = some z ∧ w.cell? ⟨b, 3, none⟩ = some u ∧ w.cell? ⟨b, 4, none⟩ = some v ∧ w.cell? ⟨b, 5, none⟩ = some t := ⟨h 0 _ rfl, h 1 _ rfl, h 2 _ rfl, h 3 _ rfl, h 4 _ rfl, h 5 _ rfl⟩
theorem Cs.mk2 {w : World} {b : Nat} {x y : Value} (h0 : w.cell? ⟨b, 0, none⟩ = some x) (h1 : w.cell? ⟨b, 1, none⟩ = some y) : Cs w b [x, y] := fun i v hv => by
  match i, hv with
  | 0, hv => simp at hv; subst hv; exact h0
  | 1, hv => simp at hv; subst hv; exact h1
theorem Cs.mk6 {w : World} {b : Nat} {x y z u v t : Value} (h0 : w.cell? ⟨b, 0, none⟩ = some x) (h1 : w.cell? ⟨b, 1, none⟩ = some y) (h2 : w.cell? ⟨b, 2, none⟩ = some z) (h3 : w.cell? ⟨b, 3, none⟩ = some u) (h4 : w.cell? ⟨b, 4, none⟩ = some v) (h5 : w.cell? ⟨b, 5, none⟩ = some t) : Cs w b [x, y, z, u, v, t] := fun i a hv => by
  match i, hv with
  | 0, hv => simp at hv; subst hv; exact h0
  | 1, hv => simp at hv; subst hv; exact h1
  | 2, hv => simp at hv; subst hv; exact h2
  | 3, hv => simp at hv; subst hv; exact h3
  | 4, hv => simp at hv; subst hv; exact h4
  | 5, hv => simp at hv; subst hv; exact h5
/-- A key's cells, and an entry's. -/
def kC (k : Kk) : List Value := [.int .u8 k.1, .int .u8 k.2]
def xC (k : Kk) (n : Int) : List Value := [.int .u8 k.1, .int .u8 k.2, .int .u64 (lm n 0), .int .u64 (lm n 1), .int .u64 (lm n 2), .int .u64 (lm n 3)]
/-- 'v, ok := m[k]' where the walk stands. -/
theorem wpList_mlook (w : World) {ops : Array Oper} {rest : List Oper} {o : Oper} {a : Act} {Q : Exit → Act → World → Prop} (hg : o.guard = none) (m x : Operand)
    (hop : o.op = Op.lookup 119 m x true) {b : Nat} {L : List (Kk × Nm)} {k : Kk} (hm : a.eval m = .map (some b)) (hx : a.eval x = .agg #[.int .u8 k.1, .int .u8 k.2]) (h : MapIs encS w b L) (hL : Srt kyKey L) (hk : Kok k)
    (hK : wpList Try.prog ops Q rest (a.put o.dst (.tuple #[.agg #[.int .u8 (fk k L).1, .int .u8 (fk k L).2, .int .u64 (lm (fv k L) 0), .int .u64 (lm (fv k L) 1), .int .u64 (lm (fv k L) 2), .int .u64 (lm (fv k L) 3)], .bool (fh k L)])) w) : wpList Try.prog ops Q (o :: rest) a w := by
  refine wpList_plain hg fun K' hK' => ?_
  have := h.look encS kyKey hL (k := k) (kok hk)
  unfold Oper.wp
  simp only [encS] at this
  simp [execOp, hop, hm, hx, this, Result.andThen]
  exact hK' _ _ hK
/-- Rows of numbers under numbers. -/
abbrev Kvs := List (Kk × Nm)
abbrev Deeds := List (Deed Kk Nm)
/-- What takes a deed back, as a function value: its boxes lie among Z. -/
def DeedAt (w : World) (Z : Nat → Prop) (d : Deed Kk Nm) (u : Value) : Prop :=
  (∃ h o m k : Nat, u = .func (.func 75) #[] #[.pointer (some ⟨h, 0, none⟩), .pointer (some ⟨o, 0, none⟩), .pointer (some ⟨m, 0, none⟩), .pointer (some ⟨k, 0, none⟩)] ∧ (Z h ∧ Z o ∧ Z m ∧ Z k) ∧
    w.cell? ⟨h, 0, none⟩ = some (.bool d.old.isSome) ∧ (∀ v, d.old = some v → Cs w o (xC d.k v.1)) ∧ w.cell? ⟨m, 0, none⟩ = some (.pointer (some ⟨d.m, 0, none⟩)) ∧ Cs w k (kC d.k)) ∨
  (∃ o m k v, u = .func (.func 73) #[] #[.pointer (some ⟨o, 0, none⟩), .pointer (some ⟨m, 0, none⟩), .pointer (some ⟨k, 0, none⟩)] ∧ (Z o ∧ Z m ∧ Z k) ∧
    d.old = some v ∧ Cs w o (xC d.k v.1) ∧ w.cell? ⟨m, 0, none⟩ = some (.pointer (some ⟨d.m, 0, none⟩)) ∧ Cs w k (kC d.k))
theorem DeedAt.of {w w' : World} {Z Z' : Nat → Prop} {d : Deed Kk Nm} {u : Value} (h : DeedAt w Z d u) (hz : ∀ k, Z k → w'.heap[k]? = w.heap[k]?) (hZ : ∀ k, Z k → Z' k) : DeedAt w' Z' d u := by
  have cz : ∀ k o, Z k → w'.cell? ⟨k, o, none⟩ = w.cell? ⟨k, o, none⟩ := fun k o hk => World.cell?_of_block (w := w) (a := ⟨k, o, none⟩) (hz k hk)
  rcases h with ⟨hh, o, m, k, rfl, ⟨z1, z2, z3, z4⟩, c1, c2, c3, c4⟩ | ⟨o, m, k, v, rfl, ⟨z2, z3, z4⟩, e, c2, c3, c4⟩
  · exact .inl ⟨hh, o, m, k, rfl, ⟨hZ _ z1, hZ _ z2, hZ _ z3, hZ _ z4⟩, (cz _ _ z1).trans c1, fun v hv => (c2 v hv).of (hz _ z2), (cz _ _ z3).trans c3, c4.of (hz _ z4)⟩
  · exact .inr ⟨o, m, k, v, rfl, ⟨hZ _ z2, hZ _ z3, hZ _ z4⟩, e, c2.of (hz _ z2), (cz _ _ z3).trans c3, c4.of (hz _ z4)⟩
/-- The cells of a map's box. -/
structure MapBox (w : World) (a bj bm : Nat) : Prop where
  c0 : w.cell? ⟨a, 0, none⟩ = some (.pointer (some ⟨bj, 0, none⟩))
  c1 : w.cell? ⟨a, 1, none⟩ = some (.func (.func 48) #[] #[])
  c2 : w.cell? ⟨a, 2, none⟩ = some (.map (some bm))
theorem MapBox.of {w w' : World} {a bj bm : Nat} (h : MapBox w a bj bm) (hb : w'.heap[a]? = w.heap[a]?) : MapBox w' a bj bm :=
  ⟨(World.cell?_of_block (w := w) (a := ⟨a, 0, none⟩) hb).trans h.c0, (World.cell?_of_block (w := w) (a := ⟨a, 1, none⟩) hb).trans h.c1, (World.cell?_of_block (w := w) (a := ⟨a, 2, none⟩) hb).trans h.c2⟩
/-- Functions, in a row of a call's own. -/
abbrev FRow (w : World) (v : Value) (us : List Value) : Prop := w.ownsRow 0 1 1 v us.length us
theorem FRow.of {w w' : World} {v : Value} {us : List Value} (h : FRow w v us) (hb : ∀ k, v.ownBlock = some k → w'.heap[k]? = w.heap[k]?) : FRow w' v us := by
  refine ⟨h.1, ?_⟩
  rcases h.2 with hn | ⟨g, cap, cur, rfl, hB, hg, r⟩
  · exact .inl hn
  · exact .inr ⟨g, cap, cur, rfl, hB, by rw [hb g rfl]; exact hg, r⟩
/-- Where a journal stands: its block, others' deeds ahead of these, and what stands behind it in its block. -/
structure Jb where
  b : Nat
  P : List Value
  E : List Value
  sm : P.length ≤ 100
/-- The journal in block bj, with these deeds, and its maps: A their boxes, mb their maps' blocks, X what they have. S: the blocks that are its own; Z: those of them that never turn. -/
structure St (w : World) (S Z : Nat → Prop) (bj : Jb) (A : List Nat) (mb : Nat → Nat) (X : Nat → Kvs) (ds : Deeds) : Prop where
  low : ∀ k, S k → k < w.heap.size
  stat : ∀ k, Z k → S k
  jS : S bj.b
  jZ : ¬ Z bj.b
  jf : ∀ o, w.frozen? ⟨bj.b, o, none⟩ = false
  ext : ∀ (i : Nat) v, bj.E[i]? = some v → w.cell? ⟨bj.b, i + 1, none⟩ = some v
  row : ∃ v us, w.cell? ⟨bj.b, 0, none⟩ = some v ∧ FRow w v (bj.P ++ us) ∧ (∀ b, v.ownBlock = some b → S b ∧ ¬ Z b ∧ b ≠ bj.b) ∧ us.length = ds.length ∧ ∀ (i : Nat) d, ds[i]? = some d → ∃ u, us[i]? = some u ∧ DeedAt w Z d u
  box : ∀ a, a ∈ A → Z a ∧ S (mb a) ∧ MapBox w a bj.b (mb a)
  map : ∀ a, a ∈ A → MapIs encS w (mb a) (X a)
  inj : ∀ a b, a ∈ A → b ∈ A → mb a = mb b → a = b
  srt : ∀ a, Srt kyKey (X a)
  mine : ∀ d, d ∈ ds → d.m ∈ A ∧ Kok d.k
theorem cells_of_cellS {w : World} {b o : Nat} {v : Value} (h : w.cell? ⟨b, o, none⟩ = some v) : ∃ cs t f, w.heap[b]? = some (.cells cs t f) := by
  unfold World.cell? at h
  split at h
  · exact ⟨_, _, _, by assumption⟩
  · cases h
/-- A map's block is none with cells. -/
theorem MapIs.ne {w : World} {b c o : Nat} {v : Value} {L : Kvs} (h : MapIs encS w b L) (hc : w.cell? ⟨c, o, none⟩ = some v) : b ≠ c := fun e => by
  subst e
  rw [h.noCell] at hc
  cases hc
theorem FRow.noMap {w : World} {v : Value} {us : List Value} {g b : Nat} {L : Kvs} (h : FRow w v us) (hg : v.ownBlock = some g) (hm : MapIs encS w b L) : b ≠ g := fun e => by
  subst e
  rcases h.2 with ⟨rfl, _⟩ | ⟨g', cap, cur, rfl, hB, hg', r⟩
  · simp [Value.ownBlock] at hg
  · simp only [Value.ownBlock, Option.some.injEq] at hg
    subst hg
    obtain ⟨es, ⟨xs, clock, hx, _⟩, _⟩ := hm
    rw [hx] at hg'
    cases hg'
theorem St.of {w w' : World} {S Z : Nat → Prop} {bj : Jb} {A : List Nat} {mb : Nat → Nat} {X : Nat → Kvs} {ds : Deeds} (h : St w S Z bj A mb X ds) (hs : w.heap.size ≤ w'.heap.size) (hb : ∀ k, S k → w'.heap[k]? = w.heap[k]?) : St w' S Z bj A mb X ds := by
  obtain ⟨low, stat, jS, jZ, jf, ext, ⟨v, us, r1, r2, r3, r4, r5⟩, box, map, inj, srt, mine⟩ := h
  refine ⟨fun k hk => Nat.lt_of_lt_of_le (low k hk) hs, stat, jS, jZ, fun o => (World.frozen?_of_block (w := w) (a := ⟨bj.b, o, none⟩) (hb bj.b jS)).trans (jf o), fun i u hu => (World.cell?_of_block (w := w) (a := ⟨bj.b, i + 1, none⟩) (hb bj.b jS)).trans (ext i u hu),
    ⟨v, us, (World.cell?_of_block (w := w) (a := ⟨bj.b, 0, none⟩) (hb bj.b jS)).trans r1, r2.of fun b hb' => hb b (r3 b hb').1, r3, r4, fun i d hd => ?_⟩, fun a ha => ?_, fun a ha => (map a ha).of _ (hb _ (box a ha).2.1), inj, srt, mine⟩
  · obtain ⟨u, hu, hd'⟩ := r5 i d hd
    exact ⟨u, hu, hd'.of (fun k hk => hb k (stat k hk)) fun _ hk => hk⟩
  · obtain ⟨b1, b2, b3⟩ := box a ha
    exact ⟨b1, b2, b3.of (hb a (stat a b1))⟩
theorem St.below {w w' : World} {S Z : Nat → Prop} {bj : Jb} {A : List Nat} {mb : Nat → Nat} {X : Nat → Kvs} {ds : Deeds} (h : St w S Z bj A mb X ds) (hb : Below w.heap.size w w') : St w' S Z bj A mb X ds :=
  h.of hb.size fun k hk => hb.block k (h.low k hk)
/-- One of the maps turns. -/
theorem St.turn {w w' : World} {S Z : Nat → Prop} {bj : Jb} {A : List Nat} {mb : Nat → Nat} {X : Nat → Kvs} {ds : Deeds} (h : St w S Z bj A mb X ds) {a : Nat} (ha : a ∈ A) {L : Kvs} (hm : MapIs encS w' (mb a) L) (hL : Srt kyKey L) (hg : w.grownBy w' (some (mb a))) :
    St w' S Z bj A mb (upX X a L) ds ∧ Mv S S w w' := by
  obtain ⟨low, stat, jS, jZ, jf, ext, ⟨v, us, r1, r2, r3, r4, r5⟩, box, map, inj, srt, mine⟩ := h
  have nj : bj.b ≠ mb a := ((map a ha).ne r1).symm
  have ne : ∀ k o u, w.cell? ⟨k, o, none⟩ = some u → w'.heap[k]? = w.heap[k]? := fun k o u hc => hg.block k (by obtain ⟨cs, t, f, e⟩ := cells_of_cellS hc; exact (Array.getElem?_eq_some_iff.1 e).1) (fun e => by cases e; exact (map a ha).ne hc rfl)
  have hfr : ∀ o, w'.frozen? ⟨bj.b, o, none⟩ = false := fun o => (World.frozen?_of_block (w := w) (a := ⟨bj.b, o, none⟩) (ne bj.b 0 v r1)).trans (jf o)
  refine ⟨⟨fun k hk => Nat.lt_of_lt_of_le (low k hk) hg.size, stat, jS, jZ, hfr, fun i u hu => (World.cell?_of_block (w := w) (a := ⟨bj.b, i + 1, none⟩) (ne bj.b 0 v r1)).trans (ext i u hu), ⟨v, us, (World.cell?_of_block (w := w) (a := ⟨bj.b, 0, none⟩) (ne bj.b 0 v r1)).trans r1, r2.of fun b hb' => ?_, r3, r4, fun i d hd => ?_⟩, fun b hb => ?_, fun b hb => ?_, inj, fun b => ?_, mine⟩,
    ⟨hg.os, hg.tape, hg.output, hg.size, fun k hk hne => hg.block k hk fun e => by cases e; exact hne (box a ha).2.1, fun k hk => .inl hk⟩⟩
  · exact hg.block b (low b (r3 b hb').1) fun e => by cases e; exact r2.noMap hb' (map a ha) rfl
  · obtain ⟨u, hu, hd'⟩ := r5 i d hd
    refine ⟨u, hu, ?_⟩
    rcases hd' with ⟨hh, o, m, k, rfl, ⟨z1, z2, z3, z4⟩, c1, c2, c3, c4⟩ | ⟨o, m, k, x, rfl, ⟨z2, z3, z4⟩, e, c2, c3, c4⟩
    · have cz : ∀ k o u, w.cell? ⟨k, o, none⟩ = some u → w'.cell? ⟨k, o, none⟩ = some u := fun k o u hc => (World.cell?_of_block (w := w) (a := ⟨k, o, none⟩) (ne k o u hc)).trans hc
      exact .inl ⟨hh, o, m, k, rfl, ⟨z1, z2, z3, z4⟩, cz _ _ _ c1, fun x hx i u hu => cz _ _ _ (c2 x hx i u hu), cz _ _ _ c3, fun i u hu => cz _ _ _ (c4 i u hu)⟩
    · have cz : ∀ k o u, w.cell? ⟨k, o, none⟩ = some u → w'.cell? ⟨k, o, none⟩ = some u := fun k o u hc => (World.cell?_of_block (w := w) (a := ⟨k, o, none⟩) (ne k o u hc)).trans hc
      exact .inr ⟨o, m, k, x, rfl, ⟨z2, z3, z4⟩, e, fun i u hu => cz _ _ _ (c2 i u hu), cz _ _ _ c3, fun i u hu => cz _ _ _ (c4 i u hu)⟩
  · obtain ⟨b1, b2, b3⟩ := box b hb
    exact ⟨b1, b2, b3.of (ne b 0 _ b3.c0)⟩
  · by_cases e : b = a
    · subst e; rw [upX_same]; exact hm
    · rw [upX_other X e]
      exact (map b hb).of _ (hg.block _ (map b hb).lt fun e' => e (inj b a hb ha (Option.some.inj e')))
  · by_cases e : b = a
    · subst e; rw [upX_same]; exact hL
    · rw [upX_other X e]; exact srt b
end Go.Proofs.Ytncnilplmklccaa
