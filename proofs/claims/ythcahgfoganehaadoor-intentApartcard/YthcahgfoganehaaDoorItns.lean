/- A slice of intents in memory. -/
import Derived.Test.YthcahgfoganehaaDoorItn
namespace Go.Proofs.YthcahgfoganehaaDoor
open Go.RowKit Go.Lib

/-- An intent's cells, as a list. -/
def itnL (x : Itn) : List Value := [.int .u32 x.i, .int .u8 x.t, .int .u8 x.o, .int .u64 (lm x.a 0), .int .u64 (lm x.a 1), .int .u64 (lm x.a 2), .int .u64 (lm x.a 3)]
/-- These intents lie at this address. -/
def Itns (w : World) (ao : Option Addr) (xs : List Itn) : Prop :=
  xs = [] ∨ ∃ b off, ao = some ⟨b, off, none⟩ ∧ b < w.heap.size ∧ ∀ (j : Nat) x, xs[j]? = some x → w.rangeAt b (off + j * 7) (itnL x)
theorem Itns.below {w w' : World} {ao : Option Addr} {xs : List Itn} (h : Itns w ao xs) (hb : Below w.heap.size w w') : Itns w' ao xs := by
  rcases h with h | ⟨b, off, e, hl, hc⟩
  · exact .inl h
  · exact .inr ⟨b, off, e, Nat.lt_of_lt_of_le hl hb.size, fun j x hx i v hv => (hb.cell (p := ⟨b, off + j * 7 + i, none⟩) hl).trans (hc j x hx i v hv)⟩
theorem Itns.get {w : World} {ao : Option Addr} {xs : List Itn} (h : Itns w ao xs) {j : Nat} {x : Itn} (hx : xs[j]? = some x) : ∃ b off, ao = some ⟨b, off, none⟩ ∧ w.rangeAt b (off + j * 7) (itnL x) := by
  rcases h with rfl | ⟨b, off, e, _, hc⟩
  · simp at hx
  · exact ⟨b, off, e, hc j x hx⟩
/-- The bytes of intents, one behind the other. -/
def allB (xs : List Itn) : List Int := (xs.map ibytes).flatten
theorem allB_snoc {xs : List Itn} {k : Nat} {x : Itn} (h : xs[k]? = some x) : allB (xs.take (k + 1)) = allB (xs.take k) ++ ibytes x := by
  unfold allB
  rw [List.take_add_one, h]
  simp
theorem allB_cons (x : Itn) (xs : List Itn) : allB (x :: xs) = ibytes x ++ allB xs := by simp [allB]
theorem allB_drop {xs : List Itn} {k : Nat} {x : Itn} (h : xs[k]? = some x) : allB (xs.drop k) = ibytes x ++ allB (xs.drop (k + 1)) := by
  have hk : k < xs.length := (List.getElem?_eq_some_iff.1 h).1
  have e : xs.drop k = x :: xs.drop (k + 1) := by
    rw [List.drop_eq_getElem_cons hk]
    rw [List.getElem?_eq_getElem hk] at h
    simp only [Option.some.injEq] at h
    rw [h]
  rw [e, allB_cons]
theorem allB_length (xs : List Itn) : (allB xs).length = 38 * xs.length := by
  induction xs with
  | nil => simp [allB]
  | cons x r ih => rw [allB_cons, List.length_append, ibytes_length, ih]; simp; omega
theorem allB_byt (xs : List Itn) : Byt (allB xs) := by
  induction xs with
  | nil => intro x hx; simp [allB] at hx
  | cons x r ih => rw [allB_cons]; exact (ibytes_byt x).app ih
end Go.Proofs.YthcahgfoganehaaDoor
