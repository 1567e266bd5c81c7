/- A map's block as a row of keys and values: what is read, put, dropped, counted and ranged over. -/
import Derived.Test.YtncnilplmklccaaStgMath
import Derived.Maps.RangeWalk
namespace Go.Proofs.Ytncnilplmklccaa
set_option linter.unusedSimpArgs false
set_option linter.unusedVariables false
set_option linter.unusedSectionVars false
open Go.WideShapes

/-- How a program's map holds keys and entries. -/
structure Enc (P : Program) (α β : Type) where
  T : TypeId
  K : TypeId
  E : TypeId
  keyed : Go.Maps.Keyed P K
  ht : P.underlying T = some (.map K E)
  ok : α → Prop
  kv : α → Value
  kl : α → Lit
  key : ∀ a, ok a → keyOf P K (kv a) = some (kl a)
  inv : ∀ {v l}, keyOf P K v = some l → ∃ a, v = kv a ∧ l = kl a ∧ ok a
  inj : ∀ {a b}, ok a → ok b → kl a = kl b → a = b
  ev : α × β → Value
  dv : α × β → DataW Unit
  R : Value → Option (DataW Unit × List MemPlace)
  rd : ∀ x, R (ev x) = some (dv x, [])
  rinv : ∀ {v y}, R v = some y → ∃ x, v = ev x ∧ y.1 = dv x
  dinj : ∀ {x y}, dv x = dv y → x = y
  z0 : α × β
  zero : ∀ w, (zeroValue E).run P w = .ok (ev z0) w
section
variable {P : Program} {α β : Type} [DecidableEq α] (C : Enc P α β) (O : Ky α)

/-- An entry as it is read. -/
def Enc.en (x : α × β) : Lit × DataW Unit := (C.kl x.1, C.dv x)
theorem Enc.isKey {a : α} (h : C.ok a) : WideAt.IsKeyLit (C.kl a) := C.keyed.key (C.key a h)
theorem Enc.same {a b : α} (h0 : C.ok a) (h : C.ok b) : (C.kl a).sameKey (C.kl b) = decide (a = b) := by
  by_cases e : a = b
  · subst e; rw [WideAt.sameKey_self (C.isKey h)]; simp
  · rw [Maps.sameKey_ne (fun h1 => e (C.inj h0 h h1))]; simp [e]
/-- Block b is a map with just these keys and values. -/
def MapIs (w : World) (b : Nat) (L : List (α × β)) : Prop :=
  ∃ es, w.ownsMap P C.K C.R b L.length (.map es) ∧ es.Perm (L.map C.en) ∧ ∀ x ∈ L, C.ok x.1
theorem ownsMap_tight {k : TypeId} {R : Value → Option (DataW Unit × List MemPlace)} {w : World} {b n : Nat} {es : List (Lit × DataW Unit)} (h : w.ownsMap P k R b n (.map es)) : w.ownsMap P k R b es.length (.map es) := by
  obtain ⟨xs, clock, hb, F, _, hD⟩ := h
  refine ⟨xs, clock, hb, F, ?_, hD⟩
  injection hD with hD
  rw [hD, length_sorted]
  simp
theorem MapIs.lt {w : World} {b : Nat} {L : List (α × β)} (h : MapIs C w b L) : b < w.heap.size := by
  obtain ⟨es, h1, _⟩ := h
  exact h1.lt
theorem MapIs.of {w w' : World} {b : Nat} {L : List (α × β)} (h : MapIs C w b L) (hb : w'.heap[b]? = w.heap[b]?) : MapIs C w' b L := by
  obtain ⟨es, ⟨xs, clock, hx, r⟩, r2⟩ := h
  exact ⟨es, ⟨xs, clock, hb.trans hx, r⟩, r2⟩
theorem MapIs.made (w : World) : MapIs C (w.alloc (.map #[] 0)) w.heap.size [] :=
  ⟨[], World.ownsMap_made w P C.K C.R, by simp, fun x hx => by simp at hx⟩
/-- A map's block has no cells. -/
theorem MapIs.noCell {w : World} {b : Nat} {L : List (α × β)} (h : MapIs C w b L) (o : Nat) : w.cell? ⟨b, o, none⟩ = none := by
  obtain ⟨es, ⟨xs, clock, hx, _⟩, _⟩ := h
  simp [World.cell?, hx]
theorem MapIs.apart {w : World} {b : Nat} {L : List (α × β)} (h : MapIs C w b L) (hL : Srt O L) : ∃ es, w.ownsMap P C.K C.R b L.length (.map es) ∧ es.Perm (L.map C.en) ∧ (∀ x ∈ L, C.ok x.1) ∧ es.Pairwise fun p q => p.1 ≠ q.1 := by
  obtain ⟨es, h1, h2, h3⟩ := h
  refine ⟨es, h1, h2, h3, (h2.symm.pairwise_iff (fun {a b} (h : a.1 ≠ b.1) => h.symm)).1 ?_⟩
  rw [List.pairwise_map]
  exact (hL.nodup O).imp_of_mem fun ha hb hne e => hne (C.inj (h3 _ ha) (h3 _ hb) e)
theorem filter_en {L : List (α × β)} (hL : ∀ x ∈ L, C.ok x.1) {k : α} (hk : C.ok k) : (L.map C.en).filter (ChangeMaps.notKey (C.kl k)) = (delL k L).map C.en := by
  unfold delL
  rw [List.filter_map]
  congr 1
  refine List.filter_congr fun x hx => ?_
  simp [ChangeMaps.notKey, Enc.en, C.same (hL x hx) hk]
theorem MapIs.len {w : World} {b : Nat} {L : List (α × β)} (h : MapIs C w b L) (ty : TypeId) : (Builtin.len_ #[C.T] ty #[.map (some b)]).run P w = .ok (.int .i64 L.length) w := by
  obtain ⟨es, h1, h2, _⟩ := h
  have := h1.len C.ht ty
  have e : Maps.size (DataW.map es) = L.length := by rw [Maps.size_eq, h2.length_eq]; simp
  rwa [e] at this
/-- What is under a key, as it is read: a key that isn't there has the zero entry. -/
def atL (k : α) (L : List (α × β)) : α × β := match getL k L with
  | some v => (k, v)
  | none => C.z0
theorem MapIs.look {w : World} {b : Nat} {L : List (α × β)} (h : MapIs C w b L) (hL : Srt O L) {k : α} (hk : C.ok k) :
    (Instr.lookup C.T (.map (some b)) (C.kv k) true).run P w = .ok (.tuple #[C.ev (atL C k L), .bool (getL k L).isSome]) w := by
  obtain ⟨es, h1, h2, h3, h4⟩ := h.apart C O hL
  obtain ⟨v, ps, hrun, hv⟩ := h1.look_ok C.keyed C.ht (C.zero w) (C.rd C.z0) (C.key k hk)
  obtain ⟨x, rfl, hx⟩ := C.rinv hv
  rw [hrun]
  simp only at hx
  cases e : getL k L with
  | some u =>
    have hm : (C.kl k, C.dv (k, u)) ∈ es := h2.mem_iff.2 (List.mem_map.2 ⟨(k, u), getL_some_mem e, rfl⟩)
    have hat : (DataW.map es).atKey (C.kl k) (C.dv C.z0) = C.dv (k, u) := WideAt.atKey_mem _ (C.isKey hk) h4 hm
    rw [hat] at hx
    have hxk := C.dinj hx
    have hh : Maps.has (.map es) (C.kl k) = true := List.any_eq_true.2 ⟨_, hm, WideAt.sameKey_self (C.isKey hk)⟩
    rw [← hxk, hh, atL, e]
    rfl
  | none =>
    have hn : ∀ p ∈ es, p.1 ≠ C.kl k := fun p hp hpk => by
      obtain ⟨x, hx, rfl⟩ := List.mem_map.1 (h2.mem_iff.1 hp)
      exact getL_none e x hx (C.inj (h3 x hx) hk hpk)
    have hat : (DataW.map es).atKey (C.kl k) (C.dv C.z0) = C.dv C.z0 := WideAt.atKey_none _ hn
    rw [hat] at hx
    have hxk := C.dinj hx
    have hh : Maps.has (.map es) (C.kl k) = false := by
      rw [Maps.has_eq, List.any_eq_false]
      intro p hp hs
      exact hn p hp (WideAt.sameKey_eq hs)
    rw [← hxk, hh, atL, e]
    rfl
theorem MapIs.put {w : World} {b : Nat} {L : List (α × β)} (h : MapIs C w b L) (hL : Srt O L) (hn : L.length < maxLen) {k : α} (hk : C.ok k) (v : β) :
    ∃ w', (Instr.mapUpdate C.T (.map (some b)) (C.kv k) (C.ev (k, v))).run P w = .ok () w' ∧ MapIs C w' b (putL O k v L) ∧ w.mapTurned w' b := by
  obtain ⟨es, h1, h2, h3, h4⟩ := h.apart C O hL
  obtain ⟨w', hrun, r1, r2⟩ := h1.store C.keyed C.ht hn (C.key k hk) (C.rd (k, v))
  rw [DataW.put_eq] at r1
  have hp : (ChangeMaps.putKey (C.kl k) (C.dv (k, v)) es).Perm ((putL O k v L).map C.en) := by
    unfold ChangeMaps.putKey
    refine (insert_perm _ _).trans (((h2.filter _).cons _).trans ?_)
    rw [filter_en C h3 hk]
    exact ((putL_perm O hL (k := k) (v := v)).map C.en).symm
  refine ⟨w', hrun, ⟨_, ?_, hp, fun x hx => ?_⟩, r2⟩
  · have := ownsMap_tight r1
    rwa [hp.length_eq, List.length_map] at this
  · rcases mem_putL O hx with rfl | hx
    · exact hk
    · exact h3 x hx
theorem MapIs.del {w : World} {b : Nat} {L : List (α × β)} (h : MapIs C w b L) {k : α} (hk : C.ok k) (ty : TypeId) :
    ∃ w', (Builtin.delete_ #[C.T, C.K] ty #[.map (some b), C.kv k]).run P w = .ok (.tuple #[]) w' ∧ MapIs C w' b (delL k L) ∧ w.mapTurned w' b := by
  obtain ⟨es, h1, h2, h3⟩ := h
  obtain ⟨w', hrun, r1, r2⟩ := h1.drop C.keyed C.ht (C.key k hk) ty
  rw [DataW.del_eq] at r1
  have hp : (ChangeMaps.delKey (C.kl k) es).Perm ((delL k L).map C.en) := by
    unfold ChangeMaps.delKey
    rw [← filter_en C h3 hk]
    exact h2.filter _
  refine ⟨w', hrun, ⟨_, ?_, hp, fun x hx => h3 x (List.mem_filter.1 hx).1⟩, r2⟩
  have := ownsMap_tight r1
  rwa [hp.length_eq, List.length_map] at this
/-- A range over the map is under way: these entries have come, in whatever order; so many are still to come. -/
def RangeIs (w : World) (b r : Nat) (L got : List (α × β)) (cnt : Nat) : Prop :=
  ∃ es left n, w.ranges P C.K C.R b r n (.map es) left cnt ∧ es.Perm (L.map C.en) ∧ (∀ x ∈ L, C.ok x.1) ∧ (got ++ L.filter fun x => left (C.kl x.1)).Perm L
theorem RangeIs.lt {w : World} {b r : Nat} {L got : List (α × β)} {cnt : Nat} (h : RangeIs C w b r L got cnt) : r < w.heap.size := by
  obtain ⟨_, _, _, h1, _⟩ := h
  exact h1.lt
theorem RangeIs.left {w : World} {b r : Nat} {L got : List (α × β)} {cnt : Nat} (h : RangeIs C w b r L got cnt) : w.rangeLeft b r = cnt := by
  obtain ⟨_, _, _, h1, _⟩ := h
  exact h1.left_eq
theorem RangeIs.of {w w' : World} {b r : Nat} {L got : List (α × β)} {cnt : Nat} (h : RangeIs C w b r L got cnt) (hb : w'.heap[b]? = w.heap[b]?) (hr : w'.heap[r]? = w.heap[r]?) : RangeIs C w' b r L got cnt := by
  obtain ⟨es, left, n, ⟨xs, clock, since, seen, c0, h1, h2, h3, h4, h5, rest⟩, r2⟩ := h
  exact ⟨es, left, n, ⟨xs, clock, since, seen, c0, hb.trans h1, h2, h3, h4, hr.trans h5, rest⟩, r2⟩
theorem MapIs.range {w : World} {b : Nat} {L : List (α × β)} (h : MapIs C w b L) :
    ∃ w', (Instr.range C.T (.map (some b))).run P w = .ok (.pointer (some ⟨w.heap.size, 0, none⟩)) w' ∧ RangeIs C w' b w.heap.size L [] L.length ∧ w.grownBy w' none ∧ w'.heap.size = w.heap.size + 1 := by
  obtain ⟨es, h1, h2, h3⟩ := h
  obtain ⟨w', hrun, r1, r2, r3⟩ := h1.range C.keyed C.ht
  have e : Maps.size (DataW.map es) = L.length := by rw [Maps.size_eq, h2.length_eq]; simp
  rw [e] at r1
  refine ⟨w', hrun, ⟨es, _, _, r1, h2, h3, ?_⟩, r2, r3⟩
  rw [List.nil_append, List.filter_eq_self.2]
  intro x hx
  exact List.any_eq_true.2 ⟨C.en x, h2.mem_iff.2 (List.mem_map.2 ⟨x, hx, rfl⟩), WideAt.sameKey_self (C.isKey (h3 x hx))⟩
theorem filter_one {p : α × β → Bool} {x : α × β} : ∀ {L : List (α × β)}, (L.Pairwise fun a b => a.1 ≠ b.1) → x ∈ L → p x = true → (x :: L.filter fun y => p y && !decide (y.1 = x.1)).Perm (L.filter p)
  | [], _, h, _ => by simp at h
  | y :: r, hL, h, hp => by
    obtain ⟨h1, h2⟩ := List.pairwise_cons.1 hL
    rcases List.mem_cons.1 h with rfl | h
    · rw [List.filter_cons_of_neg (by simp), List.filter_cons_of_pos hp]
      have : (r.filter fun y => p y && !decide (y.1 = x.1)) = r.filter p := List.filter_congr fun z hz => by
        simp [(h1 z hz).symm]
      rw [this]
    · have ih := filter_one h2 h hp
      have hyx : y.1 ≠ x.1 := h1 x h
      cases hy : p y with
      | true =>
        rw [List.filter_cons_of_pos (by simp [hy, hyx]), List.filter_cons_of_pos hy]
        exact (List.Perm.swap _ _ _).trans (ih.cons y)
      | false =>
        rw [List.filter_cons_of_neg (by simp [hy]), List.filter_cons_of_neg (by simp [hy])]
        exact ih
theorem RangeIs.next {w : World} {b r : Nat} {L got : List (α × β)} {cnt : Nat} (h : RangeIs C w b r L got cnt) (hL : Srt O L) (ty : TypeId) :
    (got.Perm L ∧ (Instr.next (.pointer (some ⟨r, 0, none⟩)) false ty).run P w = .ok (.tuple #[.bool false]) w) ∨
    ∃ x w' cnt', x ∈ L ∧ (Instr.next (.pointer (some ⟨r, 0, none⟩)) false ty).run P w = .ok (.tuple #[.bool true, C.kv x.1, C.ev x]) w' ∧ RangeIs C w' b r L (got ++ [x]) cnt' ∧ cnt' < cnt ∧ w.grownBy w' (some r) ∧ w'.heap.size = w.heap.size ∧
      (Instr.entry (.pointer (some ⟨r, 0, none⟩))).run P w' = .ok (.tuple #[C.kv x.1, C.ev x]) w' := by
  obtain ⟨es, left, n, h1, h2, h3, h4⟩ := h
  have hap : es.Pairwise fun p q => p.1 ≠ q.1 := by
    refine (h2.symm.pairwise_iff (fun {a b} (h : a.1 ≠ b.1) => h.symm)).1 ?_
    rw [List.pairwise_map]
    exact (hL.nodup O).imp_of_mem fun ha hb hne e => hne (C.inj (h3 _ ha) (h3 _ hb) e)
  rcases h1.next C.keyed ty with ⟨_, hl, hrun⟩ | ⟨key, v, kl, y, w', cnt', hkey, hlk, hv, hat, hrun, hrg, hlt, hgr, hsz, hen⟩
  · refine .inl ⟨?_, hrun⟩
    have : (L.filter fun x => left (C.kl x.1)) = [] := List.filter_eq_nil_iff.2 fun x _ => by simp [hl]
    rwa [this, List.append_nil] at h4
  · obtain ⟨a, rfl, rfl, ha⟩ := C.inv hkey
    obtain ⟨u, rfl, hu⟩ := C.rinv hv
    obtain ⟨p, hp, hpk⟩ := List.any_eq_true.1 (Maps.has_true_of_atKey hat)
    have hpk2 := WideAt.sameKey_eq hpk
    obtain ⟨x, hx, rfl⟩ := List.mem_map.1 (h2.mem_iff.1 hp)
    have hxa : x.1 = a := C.inj (h3 x hx) ha hpk2
    subst hxa
    have e1 : (DataW.map es).atKey (C.kl x.1) (C.dv C.z0) = C.dv x := WideAt.atKey_mem _ (C.isKey ha) hap hp
    rw [hat, hu] at e1
    obtain rfl := C.dinj e1
    refine .inr ⟨u, w', cnt', hx, hrun, ⟨es, _, n, hrg, h2, h3, ?_⟩, hlt, hgr, hsz, hen⟩
    refine List.Perm.trans ?_ h4
    rw [List.append_assoc]
    refine List.Perm.append_left _ ?_
    have := filter_one (p := fun x => left (C.kl x.1)) (hL.nodup O) hx hlk
    refine List.Perm.trans (List.Perm.of_eq ?_) this
    rw [List.singleton_append]
    congr 1
    exact List.filter_congr fun z hz => by rw [C.same (h3 z hz) ha]
end
end Go.Proofs.Ytncnilplmklccaa
