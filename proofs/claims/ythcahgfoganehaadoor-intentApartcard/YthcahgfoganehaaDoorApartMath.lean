/- Unlike tags or parts have unlike texts. -/
import Derived.Test.YthcahgfoganehaaDoorDomText
import Derived.Lib.Bytes
namespace Go.Proofs.YthcahgfoganehaaDoor
open Go.RowKit Go.Lib

theorem be1 (a : Int) (h0 : 0 ≤ a) (h1 : a < 256) : be a 1 = [a] := by
  have e : be a 1 = [a / 2 ^ (8 * (1 - 1 - 0)) % 256] := rfl
  rw [e]
  simp
  omega
theorem be4 (x : Int) : be x 4 = [x / 16777216 % 256, x / 65536 % 256, x / 256 % 256, x % 256] := by
  have e : be x 4 = [x / 2 ^ (8 * (4 - 1 - 0)) % 256, x / 2 ^ (8 * (4 - 1 - 1)) % 256, x / 2 ^ (8 * (4 - 1 - 2)) % 256, x / 2 ^ (8 * (4 - 1 - 3)) % 256] := rfl
  rw [e]
  simp
theorem be4_inj {x y : Int} (hx : 0 ≤ x ∧ x < 4294967296) (hy : 0 ≤ y ∧ y < 4294967296) (h : be x 4 = be y 4) : x = y := by
  rw [be4, be4] at h
  simp only [List.cons.injEq, and_true] at h
  omega
theorem ptexts_inj : ∀ ls ms : List (List Int), (∀ l ∈ ls, l.length ≤ 1000000) → (∀ m ∈ ms, m.length ≤ 1000000) → ptexts ls = ptexts ms → ls = ms
  | [], [], _, _, _ => rfl
  | [], m :: s, _, _, h => by
    have := congrArg List.length h
    rw [show ptexts (m :: s) = ptext m ++ ptexts s from rfl, List.length_append, ptext_length] at this
    simp [ptexts] at this
    omega
  | l :: r, [], _, _, h => by
    have := congrArg List.length h
    rw [show ptexts (l :: r) = ptext l ++ ptexts r from rfl, List.length_append, ptext_length] at this
    simp [ptexts] at this
  | l :: r, m :: s, hl, hm, h => by
    have h1 := hl l (by simp)
    have h2 := hm m (by simp)
    rw [show ptexts (l :: r) = (be (l.length : Int) 4 ++ l) ++ ptexts r from rfl, show ptexts (m :: s) = (be (m.length : Int) 4 ++ m) ++ ptexts s from rfl, List.append_assoc, List.append_assoc] at h
    obtain ⟨e1, e2⟩ := List.append_inj h (by rw [be_length, be_length])
    have e3 := be4_inj (by omega) (by omega) e1
    obtain ⟨e4, e5⟩ := List.append_inj e2 (by omega)
    rw [e4, ptexts_inj r s (fun x hx => hl x (by simp [hx])) (fun x hx => hm x (by simp [hx])) e5]
theorem dtext_inj {a b : Int} {ls ms : List (List Int)} (ha : 0 ≤ a ∧ a < 256) (hb : 0 ≤ b ∧ b < 256) (hl : ∀ l ∈ ls, l.length ≤ 1000000) (hm : ∀ m ∈ ms, m.length ≤ 1000000) (h : dtext a ls = dtext b ms) : a = b ∧ ls = ms := by
  unfold dtext at h
  rw [be1 a ha.1 ha.2, be1 b hb.1 hb.2] at h
  simp only [List.singleton_append, List.cons.injEq] at h
  exact ⟨h.1, ptexts_inj ls ms hl hm h.2⟩
theorem str_inj : ∀ {L M : List Int}, Byt L → Byt M → (strOfNums L).toList = (strOfNums M).toList → L = M := by
  intro L M hL hM h
  have e : L.map (fun n => UInt8.ofNat n.toNat) = M.map fun n => UInt8.ofNat n.toNat := by
    rw [strOfNums_toList, strOfNums_toList] at h
    exact h
  have el : L.length = M.length := by simpa using congrArg List.length e
  apply List.ext_getElem el
  intro j h1 h2
  have e2 : (L.map (fun n => UInt8.ofNat n.toNat))[j]? = (M.map fun n => UInt8.ofNat n.toNat)[j]? := by rw [e]
  simp only [List.getElem?_map, List.getElem?_eq_getElem h1, List.getElem?_eq_getElem h2, Option.map_some, Option.some.injEq] at e2
  have b1 := hL _ (List.getElem_mem h1)
  have b2 := hM _ (List.getElem_mem h2)
  have e3 := congrArg UInt8.toNat e2
  simp at e3
  omega
/-- Are they alike, as far as they were looked at? -/
def alike (a b : Int) (ls ms : List (List Int)) (k : Nat) : Bool := decide (a = b ∧ ls.length = ms.length ∧ ls.take k = ms.take k)
theorem alike_zero (a b : Int) (ls ms : List (List Int)) : alike a b ls ms 0 = decide (a = b ∧ ls.length = ms.length) := by
  unfold alike; simp
theorem alike_next {a b : Int} {ls ms : List (List Int)} {k : Nat} {l m : List Int} (h : alike a b ls ms k = true) (hl : ls[k]? = some l) (hm : ms[k]? = some m) : alike a b ls ms (k + 1) = decide (l = m) := by
  unfold alike at h ⊢
  obtain ⟨h1, h2, h3⟩ := of_decide_eq_true h
  rw [List.take_add_one, List.take_add_one, hl, hm, h3, Bool.eq_iff_iff]
  simp [h1, h2]
theorem alike_all (a b : Int) (ls ms : List (List Int)) : alike a b ls ms ls.length = decide (a = b ∧ ls = ms) := by
  unfold alike
  rw [Bool.eq_iff_iff]
  simp only [decide_eq_true_eq, List.take_length]
  constructor
  · rintro ⟨h1, h2, h3⟩
    rw [h2, List.take_length] at h3
    exact ⟨h1, h3⟩
  · rintro ⟨h1, h2⟩
    subst h2
    simp [h1]
theorem alike_not {a b : Int} {ls ms : List (List Int)} {k : Nat} (h : alike a b ls ms k = false) : ¬ (a = b ∧ ls = ms) := by
  rintro ⟨rfl, rfl⟩
  unfold alike at h
  simp at h
end Go.Proofs.YthcahgfoganehaaDoor
