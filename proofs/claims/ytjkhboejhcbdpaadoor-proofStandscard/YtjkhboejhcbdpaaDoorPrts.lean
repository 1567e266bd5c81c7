/- Slices of slices of bytes in memory: parts. -/
import Derived.Test.YtjkhboejhcbdpaaDoorPackBase
namespace Go.Proofs.YtjkhboejhcbdpaaDoor
open Go.RowKit Go.Lib

/-- A part: where it lies, and its bytes. -/
structure Prt where
  ao : Option Addr
  cap : Nat
  l : List Int
/-- All parts, one behind the other. -/
def cat (ps : List Prt) : List Int := (ps.map (·.l)).flatten
theorem cat_snoc (ps : List Prt) (k : Nat) (p : Prt) (h : ps[k]? = some p) : cat (ps.take (k + 1)) = cat (ps.take k) ++ p.l := by
  unfold cat
  rw [List.take_add_one, h]
  simp
theorem cat_split (ps : List Prt) (k : Nat) : cat ps = cat (ps.take k) ++ cat (ps.drop k) := by
  unfold cat
  rw [← List.flatten_append, ← List.map_append, List.take_append_drop]
/-- What is so of a part. -/
structure PtOk (w : World) (p : Prt) : Prop where
  lies : At w p.ao p.l
  len : p.l.length ≤ p.cap
  cap : p.cap ≤ maxLen
  byt : Byt p.l
theorem PtOk.below {w w' : World} {p : Prt} (h : PtOk w p) (hb : Below w.heap.size w w') : PtOk w' p := ⟨h.lies.below hb, h.len, h.cap, h.byt⟩
/-- Parts in a row, at this address. -/
def Parts (w : World) (ao : Option Addr) (ps : List Prt) : Prop :=
  ps = [] ∨ ∃ b off, ao = some ⟨b, off, none⟩ ∧ b < w.heap.size ∧ ∀ j p, ps[j]? = some p → w.cell? ⟨b, off + j, none⟩ = some (.slice p.ao p.l.length p.cap) ∧ PtOk w p
theorem Parts.below {w w' : World} {ao : Option Addr} {ps : List Prt} (h : Parts w ao ps) (hb : Below w.heap.size w w') : Parts w' ao ps := by
  rcases h with h | ⟨b, off, e, hl, hc⟩
  · exact .inl h
  · exact .inr ⟨b, off, e, Nat.lt_of_lt_of_le hl hb.size, fun j p hp => ⟨(hb.cell (p := ⟨b, off + j, none⟩) hl).trans (hc j p hp).1, (hc j p hp).2.below hb⟩⟩
/-- Two parts in a row of their own. -/
theorem two_parts {w : World} (p q : Prt) (hp : PtOk w p) (hq : PtOk w q) (t : TypeId) {g : Nat} (e : w.heap.size = g) : Parts (w.alloc (.cells #[.slice p.ao p.l.length p.cap, .slice q.ao q.l.length q.cap] t)) (some ⟨g, 0, none⟩) [p, q] := by
  subst e
  refine .inr ⟨w.heap.size, 0, rfl, by simp, fun j r hr => ?_⟩
  have hj : j = 0 ∨ j = 1 := by have := (List.getElem?_eq_some_iff.1 hr).1; simp at this; omega
  rcases hj with rfl | rfl
  · simp at hr; subst hr
    exact ⟨by rw [World.cell?_alloc_at _ _ _ _ rfl]; rfl, hp.below (bAl (bMe w))⟩
  · simp at hr; subst hr
    exact ⟨by rw [World.cell?_alloc_at _ _ _ _ rfl]; rfl, hq.below (bAl (bMe w))⟩
end Go.Proofs.YtjkhboejhcbdpaaDoor
