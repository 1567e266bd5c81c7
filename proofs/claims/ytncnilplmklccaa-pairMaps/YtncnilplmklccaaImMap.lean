/- A map's block as a row of keys and values, where an entry doesn't tell its key. -/
import Derived.Test.YtncnilplmklccaaStgMap
import Derived.Test.YtncnilplmklccaaHugeBase
namespace Go.Proofs.Ytncnilplmklccaa.Vm
set_option linter.unusedSimpArgs false
set_option linter.unusedVariables false
set_option linter.unusedSectionVars false
open Go.WideShapes

/-- How a program's map holds keys and entries. -/
structure Enc (P : Program) (α β : Type) where
  T : TypeId
  K : TypeId
  E : TypeId
  keyed : Go.Maps.Keyed P K
  ht : P.underlying T = some (.map K E)
  ok : α → Prop
  kv : α → Value
  kl : α → Lit
  key : ∀ a, ok a → keyOf P K (kv a) = some (kl a)
  inj : ∀ {a b}, ok a → ok b → kl a = kl b → a = b
  ev : α × β → Value
  dv : α × β → DataW Unit
  R : Value → Option (DataW Unit × List MemPlace)
  rd : ∀ x, R (ev x) = some (dv x, [])
  rinv : ∀ {v y}, R v = some y → ∃ x, v = ev x ∧ y.1 = dv x
  dinj : ∀ {x y}, dv x = dv y → ev x = ev y
  z0 : α × β
  zero : ∀ w, (zeroValue E).run P w = .ok (ev z0) w
section
variable {P : Program} {α β : Type} [DecidableEq α] (C : Enc P α β) (O : Ky α)

/-- An entry as it is read. -/
def Enc.en (x : α × β) : Lit × DataW Unit := (C.kl x.1, C.dv x)
theorem Enc.isKey {a : α} (h : C.ok a) : WideAt.IsKeyLit (C.kl a) := C.keyed.key (C.key a h)
theorem Enc.same {a b : α} (h0 : C.ok a) (h : C.ok b) : (C.kl a).sameKey (C.kl b) = decide (a = b) := by
  by_cases e : a = b
  · subst e; rw [WideAt.sameKey_self (C.isKey h)]; simp
  · rw [Maps.sameKey_ne (fun h1 => e (C.inj h0 h h1))]; simp [e]
/-- Block b is a map with just these keys and values. -/
def MapIs (w : World) (b : Nat) (L : List (α × β)) : Prop :=
  ∃ es, w.ownsMap P C.K C.R b L.length (.map es) ∧ es.Perm (L.map C.en) ∧ ∀ x ∈ L, C.ok x.1
theorem MapIs.lt {w : World} {b : Nat} {L : List (α × β)} (h : MapIs C w b L) : b < w.heap.size := by
  obtain ⟨es, h1, _⟩ := h
  exact h1.lt
theorem MapIs.of {w w' : World} {b : Nat} {L : List (α × β)} (h : MapIs C w b L) (hb : w'.heap[b]? = w.heap[b]?) : MapIs C w' b L := by
  obtain ⟨es, ⟨xs, clock, hx, r⟩, r2⟩ := h
  exact ⟨es, ⟨xs, clock, hb.trans hx, r⟩, r2⟩
theorem MapIs.made (w : World) : MapIs C (w.alloc (.map #[] 0)) w.heap.size [] :=
  ⟨[], World.ownsMap_made w P C.K C.R, by simp, fun x hx => by simp at hx⟩
/-- A map's block has no cells. -/
theorem MapIs.noCell {w : World} {b : Nat} {L : List (α × β)} (h : MapIs C w b L) (o : Nat) : w.cell? ⟨b, o, none⟩ = none := by
  obtain ⟨es, ⟨xs, clock, hx, _⟩, _⟩ := h
  simp [World.cell?, hx]
theorem MapIs.apart {w : World} {b : Nat} {L : List (α × β)} (h : MapIs C w b L) (hL : Srt O L) : ∃ es, w.ownsMap P C.K C.R b L.length (.map es) ∧ es.Perm (L.map C.en) ∧ (∀ x ∈ L, C.ok x.1) ∧ es.Pairwise fun p q => p.1 ≠ q.1 := by
  obtain ⟨es, h1, h2, h3⟩ := h
  refine ⟨es, h1, h2, h3, (h2.symm.pairwise_iff (fun {a b} (h : a.1 ≠ b.1) => h.symm)).1 ?_⟩
  rw [List.pairwise_map]
  exact (hL.nodup O).imp_of_mem fun ha hb hne e => hne (C.inj (h3 _ ha) (h3 _ hb) e)
theorem filter_en {L : List (α × β)} (hL : ∀ x ∈ L, C.ok x.1) {k : α} (hk : C.ok k) : (L.map C.en).filter (ChangeMaps.notKey (C.kl k)) = (delL k L).map C.en := by
  unfold delL
  rw [List.filter_map]
  congr 1
  refine List.filter_congr fun x hx => ?_
  simp [ChangeMaps.notKey, Enc.en, C.same (hL x hx) hk]
theorem MapIs.len {w : World} {b : Nat} {L : List (α × β)} (h : MapIs C w b L) (ty : TypeId) : (Builtin.len_ #[C.T] ty #[.map (some b)]).run P w = .ok (.int .i64 L.length) w := by
  obtain ⟨es, h1, h2, _⟩ := h
  have := h1.len C.ht ty
  have e : Maps.size (DataW.map es) = L.length := by rw [Maps.size_eq, h2.length_eq]; simp
  rwa [e] at this
/-- What is under a key, as it is read: a key that isn't there has the zero entry. -/
def atL (k : α) (L : List (α × β)) : α × β := match getL k L with
  | some v => (k, v)
  | none => C.z0
theorem MapIs.look {w : World} {b : Nat} {L : List (α × β)} (h : MapIs C w b L) (hL : Srt O L) {k : α} (hk : C.ok k) :
    (Instr.lookup C.T (.map (some b)) (C.kv k) true).run P w = .ok (.tuple #[C.ev (atL C k L), .bool (getL k L).isSome]) w := by
  obtain ⟨es, h1, h2, h3, h4⟩ := h.apart C O hL
  obtain ⟨v, ps, hrun, hv⟩ := h1.look_ok C.keyed C.ht (C.zero w) (C.rd C.z0) (C.key k hk)
  obtain ⟨x, rfl, hx⟩ := C.rinv hv
  rw [hrun]
  simp only at hx
  cases e : getL k L with
  | some u =>
    have hm : (C.kl k, C.dv (k, u)) ∈ es := h2.mem_iff.2 (List.mem_map.2 ⟨(k, u), getL_some_mem e, rfl⟩)
    have hat : (DataW.map es).atKey (C.kl k) (C.dv C.z0) = C.dv (k, u) := WideAt.atKey_mem _ (C.isKey hk) h4 hm
    rw [hat] at hx
    have hxk := C.dinj hx
    have hh : Maps.has (.map es) (C.kl k) = true := List.any_eq_true.2 ⟨_, hm, WideAt.sameKey_self (C.isKey hk)⟩
    rw [← hxk, hh, atL, e]
    rfl
  | none =>
    have hn : ∀ p ∈ es, p.1 ≠ C.kl k := fun p hp hpk => by
      obtain ⟨x, hx, rfl⟩ := List.mem_map.1 (h2.mem_iff.1 hp)
      exact getL_none e x hx (C.inj (h3 x hx) hk hpk)
    have hat : (DataW.map es).atKey (C.kl k) (C.dv C.z0) = C.dv C.z0 := WideAt.atKey_none _ hn
    rw [hat] at hx
    have hxk := C.dinj hx
    have hh : Maps.has (.map es) (C.kl k) = false := by
      rw [Maps.has_eq, List.any_eq_false]
      intro p hp hs
      exact hn p hp (WideAt.sameKey_eq hs)
    rw [← hxk, hh, atL, e]
    rfl
theorem MapIs.put {w : World} {b : Nat} {L : List (α × β)} (h : MapIs C w b L) (hL : Srt O L) (hn : L.length < maxLen) {k : α} (hk : C.ok k) (v : β) :
    ∃ w', (Instr.mapUpdate C.T (.map (some b)) (C.kv k) (C.ev (k, v))).run P w = .ok () w' ∧ MapIs C w' b (putL O k v L) ∧ w.mapTurned w' b := by
  obtain ⟨es, h1, h2, h3, h4⟩ := h.apart C O hL
  obtain ⟨w', hrun, r1, r2⟩ := h1.store C.keyed C.ht hn (C.key k hk) (C.rd (k, v))
  rw [DataW.put_eq] at r1
  have hp : (ChangeMaps.putKey (C.kl k) (C.dv (k, v)) es).Perm ((putL O k v L).map C.en) := by
    unfold ChangeMaps.putKey
    refine (insert_perm _ _).trans (((h2.filter _).cons _).trans ?_)
    rw [filter_en C h3 hk]
    exact ((putL_perm O hL (k := k) (v := v)).map C.en).symm
  refine ⟨w', hrun, ⟨_, ?_, hp, fun x hx => ?_⟩, r2⟩
  · have := ownsMap_tight r1
    rwa [hp.length_eq, List.length_map] at this
  · rcases mem_putL O hx with rfl | hx
    · exact hk
    · exact h3 x hx
end
theorem zeroI (w : World) : (zeroValue 3).run Try.prog w = .ok (.int .i64 0) w := by kernel_rfl
def intR : Value → Option (DataW Unit × List MemPlace)
  | .int .i64 a => some (.lit (.int .i64 a), [])
  | _ => none
theorem intR_inv {v : Value} {y : DataW Unit × List MemPlace} (h : intR v = some y) : ∃ x : Int × Int, v = .int .i64 x.2 ∧ y.1 = .lit (.int .i64 x.2) := by
  unfold intR at h
  split at h
  · rename_i a
    cases h
    exact ⟨(0, a), rfl, rfl⟩
  · cases h
def encV : Enc Try.prog Int Int where
  T := 49
  K := 3
  E := 3
  keyed := Go.Maps.int_keyed Try.underlying3
  ht := Try.underlying49
  ok k := (Lit.int .i64 k).wf = true
  kv := Value.int .i64
  kl := Lit.int .i64
  key _ h := Maps.keyOf_int_mk Try.underlying3 h
  inj _ _ h := by injection h
  ev x := .int .i64 x.2
  dv x := .lit (.int .i64 x.2)
  R := intR
  rd _ := rfl
  rinv h := intR_inv h
  dinj h := by
    injection h with h
    injection h with _ h
    rw [h]
  z0 := (0, 0)
  zero := zeroI
end Go.Proofs.Ytncnilplmklccaa.Vm
