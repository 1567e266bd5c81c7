/- Rows of bytes that grow: a box that holds a slice of its own (pack.Writer), what it turns; slices of bytes. -/
import Derived.Test.YtncnilplmklccaaHugeRd
import Derived.Laws.BytesArg
import Derived.Laws.OwnMore
import Derived.Deep.RegionLaw
namespace Go.Proofs.Ytncnilplmklccaa
open Go.RowKit Go.Lib

/-- Bytes as a program holds them. -/
def bv (l : List Int) : List Value := l.map (Value.int .u8)
theorem bv_length (l : List Int) : (bv l).length = l.length := by simp [bv]
theorem bv_append (a b : List Int) : bv (a ++ b) = bv a ++ bv b := by simp [bv]
theorem bv_one (l : List Int) : ∀ u ∈ bv l, u.oneCell' = true := by
  intro u hu; obtain ⟨x, _, rfl⟩ := List.mem_map.1 hu; rfl
theorem bv_get {l : List Int} {j : Nat} (h : j < l.length) : (bv l)[j]? = some (.int .u8 (l.getD j 0)) := by
  simp [bv, h]
/-- Every one is a byte. -/
def Byt (l : List Int) : Prop := ∀ x ∈ l, 0 ≤ x ∧ x < 256
theorem Byt.app {a b : List Int} (h : Byt a) (k : Byt b) : Byt (a ++ b) := by
  intro x hx; rcases List.mem_append.1 hx with hx | hx
  · exact h x hx
  · exact k x hx
theorem Byt.get {l : List Int} (h : Byt l) (j : Nat) : 0 ≤ l.getD j 0 ∧ l.getD j 0 < 256 := by
  by_cases e : j < l.length
  · have : l.getD j 0 = l[j] := by simp [e]
    rw [this]; exact h _ (List.getElem_mem e)
  · rw [List.getD_eq_getElem?_getD, List.getElem?_eq_none (by omega)]; simp
theorem Byt.take {l : List Int} (h : Byt l) (n : Nat) : Byt (l.take n) := fun x hx => h x (List.mem_of_mem_take hx)
theorem Byt.drop {l : List Int} (h : Byt l) (n : Nat) : Byt (l.drop n) := fun x hx => h x (List.mem_of_mem_drop hx)
/-- These bytes lie at this address. -/
def At (w : World) (ao : Option Addr) (l : List Int) : Prop :=
  l = [] ∨ ∃ b off, ao = some ⟨b, off, none⟩ ∧ b < w.heap.size ∧ ∀ j, j < l.length → w.cell? ⟨b, off + j, none⟩ = some (.int .u8 (l.getD j 0))
theorem At.nil (w : World) (ao : Option Addr) : At w ao [] := .inl rfl
theorem At.of {w w' : World} {ao : Option Addr} {l : List Int} (h : At w ao l) (hs : w.heap.size ≤ w'.heap.size) (hb : ∀ a, ao = some a → a.block < w.heap.size → w'.heap[a.block]? = w.heap[a.block]?) : At w' ao l := by
  rcases h with h | ⟨b, off, rfl, hl, hc⟩
  · exact .inl h
  · exact .inr ⟨b, off, rfl, by omega, fun j hj => (World.cell?_of_block (w := w) (a := ⟨b, off + j, none⟩) (hb ⟨b, off, none⟩ rfl hl)).trans (hc j hj)⟩
theorem At.below {w w' : World} {ao : Option Addr} {l : List Int} (h : At w ao l) (hb : Below w.heap.size w w') : At w' ao l := h.of hb.size (fun _ _ hl => hb.block _ hl)
theorem At.take {w : World} {ao : Option Addr} {l : List Int} (h : At w ao l) (n : Nat) : At w ao (l.take n) := by
  rcases h with rfl | ⟨b, off, rfl, hl, hc⟩
  · exact .inl (by simp)
  · refine .inr ⟨b, off, rfl, hl, fun j hj => ?_⟩
    have hj' : j < n ∧ j < l.length := by rw [List.length_take] at hj; omega
    rw [hc j hj'.2]; simp [hj'.1]
theorem At.drop {w : World} {b off : Nat} {l : List Int} (h : At w (some ⟨b, off, none⟩) l) (n : Nat) : At w (some ⟨b, off + n, none⟩) (l.drop n) := by
  rcases h with rfl | ⟨b', off', e, hl, hc⟩
  · exact .inl (by simp)
  · simp only [Option.some.injEq, Addr.mk.injEq, and_true] at e
    obtain ⟨rfl, rfl⟩ := e
    refine .inr ⟨b, off + n, rfl, hl, fun j hj => ?_⟩
    have hj' : n + j < l.length := by simp at hj; omega
    rw [Nat.add_assoc, hc _ hj']; simp

theorem infoByte : (Try.prog.info? 5).map (fun i => (i.zero, i.size, i.bytes)) = some (some (.int .u8 0), 1, 1) := by kernel_rfl
theorem info_byte : ∃ i, Try.prog.info? 5 = some i ∧ i.zero = some (.int .u8 0) ∧ i.size = 1 ∧ i.bytes = 1 := by
  have h := infoByte
  cases e : Try.prog.info? 5 with
  | none => rw [e] at h; simp at h
  | some i => rw [e] at h; simp at h; exact ⟨i, rfl, h.1, h.2.1, h.2.2⟩
/-- The value v holds these bytes, in a row of its own from block B on. -/
abbrev Bs (w : World) (B : Nat) (v : Value) (l : List Int) : Prop := w.ownsRow B 5 1 v l.length (bv l)
theorem Bs.cell {w : World} {B : Nat} {v : Value} {l : List Int} (h : Bs w B v l) : ∃ ao cap, v = .slice ao l.length cap ∧ l.length ≤ cap ∧ cap ≤ maxLen ∧ At w ao l := by
  rcases h.2 with ⟨rfl, e⟩ | ⟨g, cap, cur, rfl, hb, hg, hcap, hm, hs, ht⟩
  · refine ⟨none, 0, by rw [e], by omega, by simp [maxLen], .inl (List.eq_nil_of_length_eq_zero e)⟩
  · refine ⟨_, cap, rfl, hcap, hm, .inr ⟨g, 0, rfl, (Array.getElem?_eq_some_iff.1 hg).1, fun j hj => ?_⟩⟩
    rw [Nat.zero_add, World.ownsRow.cellAt h j (by omega), bv_get hj]
theorem Bs.mono {w : World} {B B' : Nat} {v : Value} {l : List Int} (h : Bs w B v l) (hB : B' ≤ B) : Bs w B' v l := by
  refine ⟨h.1, ?_⟩
  rcases h.2 with hn | ⟨g, cap, cur, rfl, hb, r⟩
  · exact .inl hn
  · exact .inr ⟨g, cap, cur, rfl, by omega, r⟩
theorem Bs.of {w w' : World} {B : Nat} {v : Value} {l : List Int} (h : Bs w B v l) (hb : ∀ k, v.ownBlock = some k → w'.heap[k]? = w.heap[k]?) : Bs w' B v l := by
  refine ⟨h.1, ?_⟩
  rcases h.2 with hn | ⟨g, cap, cur, rfl, hB, hg, r⟩
  · exact .inl hn
  · exact .inr ⟨g, cap, cur, rfl, hB, by rw [hb g rfl]; exact hg, r⟩
theorem Bs.below {w w' : World} {B : Nat} {v : Value} {l : List Int} (h : Bs w B v l) (hb : Below w.heap.size w w') : Bs w' B v l := h.of fun k hk => hb.block k (h.lt k hk).2

/-- Bytes are appended to a row of the call's own: it stays where it is, or comes anew. -/
theorem run_app (w : World) {B : Nat} {v : Value} {l l2 : List Int} {ao : Option Addr} {c : Nat} (ty : TypeId) (hown : Bs w B v l) (hsrc : At w ao l2) (hao : ao = none → c = 0) (hlen : l.length + l2.length ≤ 1048576) (hB : B ≤ w.heap.size) :
    ∃ v' w', (Builtin.append_ #[33, 33] ty #[v, .slice ao l2.length c]).run Try.prog w = .ok v' w' ∧ Bs w' B v' (l ++ l2) ∧ w.grownBy w' v.ownBlock ∧ (∀ k, v'.ownBlock = some k → v.ownBlock = some k ∨ w.heap.size ≤ k) := by
  obtain ⟨i0, hi, hz0, hz1, hz2⟩ := info_byte
  cases ao with
  | none =>
    obtain rfl := hao rfl
    obtain rfl : l2 = [] := by
      rcases hsrc with h | ⟨b, off, h, _⟩
      · exact h
      · simp at h
    refine ⟨v, w, run_append_owned_none (P := Try.prog) w B 33 ty 5 i0 1 Try.underlying33 hi v l.length (bv l) hown, by simpa using hown, ⟨rfl, rfl, rfl, Nat.le_refl _, fun _ _ _ => rfl⟩, fun k hk => .inl hk⟩
  | some a =>
    have hnews : ∀ j u, (bv l2)[j]? = some u → w.cell? (a.add j) = some u := by
      intro j u hu
      have hj : j < l2.length := by have := (List.getElem?_eq_some_iff.1 hu).1; rwa [bv_length] at this
      rcases hsrc with rfl | ⟨b, off, e, hl, hc⟩
      · simp at hj
      · simp only [Option.some.injEq] at e
        subst e
        rw [Addr.add_mid, hc j hj, ← bv_get hj, hu]
    have hl2 : (bv l2).length = l2.length * 1 := by rw [bv_length, Nat.mul_one]
    have hres : ∀ {w' : World} {B' : Nat} {v' : Value}, w'.ownsRow B' 5 1 v' (l.length + l2.length) (bv l ++ bv l2) → Bs w' B' v' (l ++ l2) := by
      intro w' B' v' h
      unfold Bs
      rw [List.length_append, bv_append]
      exact h
    rcases hown.2 with ⟨rfl, e⟩ | ⟨g, cap, cur, rfl, hbg, hg, hcap, hm, hs, ht⟩
    · obtain rfl : l = [] := List.eq_nil_of_length_eq_zero e
      obtain ⟨v', w', hrun, r1, r2, _⟩ := run_append_own (P := Try.prog) w w.heap.size 33 ty 5 i0 (.int .u8 0) 1 1 Try.underlying33 hi hz0 hz1 hz2 rfl (by decide) (.slice none 0 0) 0 [] (World.ownsRow_nil w _ _ _) a l2.length c (bv l2) hl2 hnews (bv_one l2) (by unfold maxLen; simp at hlen; omega) (by simp at hlen; omega) (Nat.le_refl _)
      have r1' : w'.ownsRow w.heap.size 5 1 v' (([] : List Int).length + l2.length) (bv [] ++ bv l2) := r1
      exact ⟨v', w', hrun, (hres r1').mono hB, r2, fun k hk => .inr (r1.lt k hk).1⟩
    · by_cases hroom : l.length + l2.length ≤ cap
      · obtain ⟨w', hrun, r1, r2⟩ := run_append_fits (P := Try.prog) w B 33 ty 5 i0 1 Try.underlying33 hi hz1 g l.length cap (bv l) hown a l2.length c (bv l2) hl2 hnews (bv_one l2) hroom
        exact ⟨_, w', hrun, hres r1, r2, fun k hk => .inl hk⟩
      · obtain ⟨v', w', hrun, r1, r2⟩ := run_append_arg_grows (P := Try.prog) w 33 ty 5 i0 (.int .u8 0) 1 1 Try.underlying33 hi hz0 hz1 hz2 rfl (by decide) ⟨g, 0, none⟩ l.length cap (bv l) (by rw [bv_length, Nat.mul_one])
          (fun j u hu => by
            have hj : j < l.length := by have := (List.getElem?_eq_some_iff.1 hu).1; rwa [bv_length] at this
            rw [Addr.add_mid, Nat.zero_add, World.ownsRow.cellAt hown j (by omega), hu]) a l2.length c (bv l2) hl2 hnews (by omega) (by unfold maxLen; omega) (by omega)
        exact ⟨v', w', hrun, (hres r1).mono hB, ⟨r2.os, r2.tape, r2.output, r2.size, fun k hk _ => r2.block k hk (by simp)⟩, fun k hk => .inr (r1.lt k hk).1⟩
/-- The same as one step of a region. -/
theorem step_app {ops : Array Oper} {o : Oper} {a : Act} {w : World} {K : Act → World → Prop} {Q : Exit → Act → World → Prop} {E : Prop} (hgd : o.guard = none) (s x : Operand)
    (ho : o.op = .call { callee := .builtin .append, args := #[s, x], argTypes := #[33, 33] }) {B : Nat} (v : Value) (l l2 : List Int) (ao : Option Addr) (n c : Nat) (hs : a.eval s = v) (hx : a.eval x = .slice ao n c) (hn : n = l2.length)
    (hown : Bs w B v l) (hsrc : At w ao l2) (hao : ao = none → c = 0) (hlen : l.length + l2.length ≤ 1048576) (hB : B ≤ w.heap.size)
    (h : ∀ v' w', Bs w' B v' (l ++ l2) → w.grownBy w' v.ownBlock → (∀ k, v'.ownBlock = some k → v.ownBlock = some k ∨ w.heap.size ≤ k) → K (a.put o.dst v') w') :
    if Region.wanted o (yielded ops a.tmps) = true then Oper.wp Try.prog o a w K Q else E := by
  subst hn
  have hw : Region.wanted o (yielded ops a.tmps) = true := by simp [Region.wanted, hgd]
  rw [if_pos hw]
  obtain ⟨v', w', hrun, r1, r2, r3⟩ := run_app w o.type hown hsrc hao hlen hB
  unfold Oper.wp
  simp [execOp, ho, resolve, invoke, builtin, hs, hx, hrun, Result.andThen]
  exact h _ _ r1 r2 r3
/-- The same in a plain region. -/
theorem wpList_app {ops : Array Oper} {rest : List Oper} {o : Oper} {a : Act} {w : World} {Q : Exit → Act → World → Prop} (hgd : o.guard = none) (s x : Operand)
    (ho : o.op = .call { callee := .builtin .append, args := #[s, x], argTypes := #[33, 33] }) {B : Nat} (v : Value) (l l2 : List Int) (ao : Option Addr) (n c : Nat) (hs : a.eval s = v) (hx : a.eval x = .slice ao n c) (hn : n = l2.length)
    (hown : Bs w B v l) (hsrc : At w ao l2) (hao : ao = none → c = 0) (hlen : l.length + l2.length ≤ 1048576) (hB : B ≤ w.heap.size)
    (h : ∀ v' w', Bs w' B v' (l ++ l2) → w.grownBy w' v.ownBlock → (∀ k, v'.ownBlock = some k → v.ownBlock = some k ∨ w.heap.size ≤ k) → wpList Try.prog ops Q rest (a.put o.dst v') w') :
    wpList Try.prog ops Q (o :: rest) a w := by
  subst hn
  obtain ⟨v', w', hrun, r1, r2, r3⟩ := run_app w o.type hown hsrc hao hlen hB
  refine wpList_plain hgd fun _ hK => ?_
  unfold Oper.wp
  simp [execOp, ho, resolve, invoke, builtin, hs, hx, hrun, Result.andThen]
  exact hK _ _ (h v' w' r1 r2 r3)
end Go.Proofs.Ytncnilplmklccaa
