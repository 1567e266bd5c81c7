/- What a reader gives, in parts: a number, a sum, what is left, the error; a chain of reads. -/
import Derived.Test.YtajkdbpojeaflaaPackReader3
namespace Go.Proofs.Ytajkdbpojeaflaa
open Go.RowKit Go.Lib

/-- A number of n bytes is read: what it is, what is left, the error. -/
def R8 (n : Nat) (l : List Int) (e v : Int) (l1 : List Int) (e1 : Int) : Prop :=
  (n ≤ l.length ∧ v = bval (l.take n) ∧ l1 = l.drop n ∧ e1 = e) ∨ (l.length < n ∧ v = 0 ∧ l1 = [] ∧ e1 = errOf e)
def RI (l : List Int) (e v : Int) (l1 : List Int) (e1 : Int) : Prop :=
  (32 ≤ l.length ∧ v = rv (fun j => l.getD j 0) 32 ∧ l1 = l.drop 32 ∧ e1 = e) ∨ (l.length < 32 ∧ v = 0 ∧ l1 = [] ∧ e1 = errOf e)
def RH (l : List Int) (e : Int) (f : Nat → Int) (l1 : List Int) (e1 : Int) : Prop :=
  (32 ≤ l.length ∧ f = (fun j => (l.take 32).getD j 0) ∧ l1 = l.drop 32 ∧ e1 = e) ∨ (l.length < 32 ∧ f = (fun _ => 0) ∧ l1 = [] ∧ e1 = errOf e)
theorem Read8.parts {w w' : World} {g n : Nat} {rb : Option Nat} {l : List Int} {e v : Int} (h : Read8 w w' g n rb l e v) : ∃ l1 e1, R8 n l e v l1 e1 ∧ Rdr w' g rb l1 e1 ∧ Bar g w w' := by
  rcases h.1 with ⟨h1, h2, h3⟩ | ⟨h1, h2, h3⟩
  · exact ⟨_, _, .inl ⟨h1, h2, rfl, rfl⟩, h3, h.2⟩
  · exact ⟨_, _, .inr ⟨h1, h2, rfl, rfl⟩, h3, h.2⟩
theorem ReadI.parts {w w' : World} {g : Nat} {rb : Option Nat} {l : List Int} {e v : Int} (h : ReadI w w' g rb l e v) : ∃ l1 e1, RI l e v l1 e1 ∧ Rdr w' g rb l1 e1 ∧ Bar g w w' := by
  rcases h.1 with ⟨h1, h2, h3⟩ | ⟨h1, h2, h3⟩
  · exact ⟨_, _, .inl ⟨h1, h2, rfl, rfl⟩, h3, h.2⟩
  · exact ⟨_, _, .inr ⟨h1, h2, rfl, rfl⟩, h3, h.2⟩
theorem ReadH.parts {w w' : World} {g : Nat} {rb : Option Nat} {l : List Int} {e : Int} {f : Nat → Int} (h : ReadH w w' g rb l e f) : ∃ l1 e1, RH l e f l1 e1 ∧ Rdr w' g rb l1 e1 ∧ Bar g w w' := by
  rcases h.1 with ⟨h1, h2, h3⟩ | ⟨h1, h2, h3⟩
  · exact ⟨_, _, .inl ⟨h1, h2, rfl, rfl⟩, h3, h.2⟩
  · exact ⟨_, _, .inr ⟨h1, h2, rfl, rfl⟩, h3, h.2⟩
theorem R8.byt {n : Nat} {l l1 : List Int} {e v e1 : Int} (h : R8 n l e v l1 e1) (hl : Byt l) : Byt l1 ∧ 0 ≤ v ∧ v < 256 ^ n := by
  rcases h with ⟨h1, rfl, rfl, _⟩ | ⟨_, rfl, rfl, _⟩
  · exact ⟨hl.drop n, bval_bd hl n h1⟩
  · exact ⟨fun x hx => by simp at hx, by omega, Int.pow_pos (by decide)⟩
theorem RI.ok {l l1 : List Int} {e v e1 : Int} (h : RI l e v l1 e1) (hl : Byt l) : In v := by
  rcases h with ⟨h1, rfl, rfl, _⟩ | ⟨_, rfl, rfl, _⟩
  · exact rv_in hl.get
  · unfold In; omega
theorem RI.byt {l l1 : List Int} {e v e1 : Int} (h : RI l e v l1 e1) (hl : Byt l) : Byt l1 := by
  rcases h with ⟨h1, rfl, rfl, _⟩ | ⟨_, rfl, rfl, _⟩
  · exact hl.drop 32
  · exact fun x hx => by simp at hx
theorem RH.byt {l l1 : List Int} {e e1 : Int} {f : Nat → Int} (h : RH l e f l1 e1) (hl : Byt l) : Byt l1 ∧ (∀ j, 0 ≤ f j ∧ f j < 256) ∧ ∀ j, 32 ≤ j → f j = 0 := by
  rcases h with ⟨h1, rfl, rfl, _⟩ | ⟨_, rfl, rfl, _⟩
  · refine ⟨hl.drop 32, (hl.take 32).get, fun j hj => ?_⟩
    show (l.take 32).getD j 0 = 0
    rw [List.getD_eq_getElem?_getD, List.getElem?_eq_none (by simp; omega)]; rfl
  · exact ⟨fun x hx => by simp at hx, fun j => (show (0 : Int) ≤ 0 ∧ (0 : Int) < 256 by omega), fun _ _ => rfl⟩
theorem errOf_ne (e : Int) : errOf e ≠ 0 := by unfold errOf; split <;> omega
theorem errOf_of {e : Int} (h : e ≠ 0) : errOf e = e := if_neg h
theorem errOf_two (e : Int) : errOf (errOf e) = errOf e := errOf_of (errOf_ne e)
/-- Behind reads of d bytes in all. -/
def Far9 (l0 : List Int) (e0 : Int) (d : Nat) (l : List Int) (e : Int) : Prop := (d ≤ l0.length ∧ l = l0.drop d ∧ e = e0) ∨ (l0.length < d ∧ l = [] ∧ e = errOf e0)
theorem Far9.none (l0 : List Int) (e0 : Int) : Far9 l0 e0 0 l0 e0 := .inl ⟨Nat.zero_le _, rfl, rfl⟩
theorem Far9.num {l0 l l1 : List Int} {e0 e e1 v : Int} {d n : Nat} (h : Far9 l0 e0 d l e) (hn : 0 < n) (hr : R8 n l e v l1 e1) : Far9 l0 e0 (d + n) l1 e1 ∧ (d + n ≤ l0.length → v = bval ((l0.drop d).take n)) := by
  rcases h with ⟨h1, rfl, rfl⟩ | ⟨h1, rfl, rfl⟩
  · rcases hr with ⟨k1, rfl, rfl, rfl⟩ | ⟨k1, rfl, rfl, rfl⟩
    · exact ⟨.inl ⟨by simp at k1; omega, by rw [List.drop_drop], rfl⟩, fun _ => rfl⟩
    · exact ⟨.inr ⟨by simp at k1; omega, rfl, rfl⟩, fun hl => by simp at k1; omega⟩
  · rcases hr with ⟨k1, _⟩ | ⟨k1, rfl, rfl, rfl⟩
    · simp at k1; omega
    · exact ⟨.inr ⟨by omega, rfl, errOf_two _⟩, fun hl => by omega⟩
theorem Far9.int {l0 l l1 : List Int} {e0 e e1 v : Int} {d : Nat} (h : Far9 l0 e0 d l e) (hr : RI l e v l1 e1) : Far9 l0 e0 (d + 32) l1 e1 ∧ (d + 32 ≤ l0.length → v = rv (fun j => (l0.drop d).getD j 0) 32) := by
  rcases h with ⟨h1, rfl, rfl⟩ | ⟨h1, rfl, rfl⟩
  · rcases hr with ⟨k1, rfl, rfl, rfl⟩ | ⟨k1, rfl, rfl, rfl⟩
    · exact ⟨.inl ⟨by simp at k1; omega, by rw [List.drop_drop], rfl⟩, fun _ => rfl⟩
    · exact ⟨.inr ⟨by simp at k1; omega, rfl, rfl⟩, fun hl => by simp at k1; omega⟩
  · rcases hr with ⟨k1, _⟩ | ⟨k1, rfl, rfl, rfl⟩
    · simp at k1
    · exact ⟨.inr ⟨by omega, rfl, errOf_two _⟩, fun hl => by omega⟩
theorem Far9.hash {l0 l l1 : List Int} {e0 e e1 : Int} {f : Nat → Int} {d : Nat} (h : Far9 l0 e0 d l e) (hr : RH l e f l1 e1) : Far9 l0 e0 (d + 32) l1 e1 ∧ (d + 32 ≤ l0.length → f = fun j => ((l0.drop d).take 32).getD j 0) := by
  rcases h with ⟨h1, rfl, rfl⟩ | ⟨h1, rfl, rfl⟩
  · rcases hr with ⟨k1, rfl, rfl, rfl⟩ | ⟨k1, rfl, rfl, rfl⟩
    · exact ⟨.inl ⟨by simp at k1; omega, by rw [List.drop_drop], rfl⟩, fun _ => rfl⟩
    · exact ⟨.inr ⟨by simp at k1; omega, rfl, rfl⟩, fun hl => by simp at k1; omega⟩
  · rcases hr with ⟨k1, _⟩ | ⟨k1, rfl, rfl, rfl⟩
    · simp at k1
    · exact ⟨.inr ⟨by omega, rfl, errOf_two _⟩, fun hl => by omega⟩
theorem Fell.parts {w' : World} {g : Nat} {rb : Option Nat} {l : List Int} {e x : Int} (h : Fell w' g rb l e x) : ∃ l1 e1, ((x = 0 ∨ e ≠ 0) ∧ l1 = l ∧ e1 = e ∨ (x ≠ 0 ∧ e = 0) ∧ l1 = [] ∧ e1 = x) ∧ Rdr w' g rb l1 e1 := by
  unfold Fell at h
  by_cases hc : x = 0 ∨ e ≠ 0
  · rw [if_pos hc] at h
    exact ⟨_, _, .inl ⟨hc, rfl, rfl⟩, h⟩
  · rw [if_neg hc] at h
    exact ⟨_, _, .inr ⟨⟨fun h => hc (.inl h), Classical.byContradiction fun h => hc (.inr h)⟩, rfl, rfl⟩, h⟩
end Go.Proofs.Ytajkdbpojeaflaa
