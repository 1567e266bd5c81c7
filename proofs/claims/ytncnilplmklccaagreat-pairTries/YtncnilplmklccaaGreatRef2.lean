/- Steps of a region that draws its order, by hand: number k is taken first, or comes up. Each law reads the operation off the region's text. Plain arithmetic of rows of digits of 16 bits, the lowest first: no Go in sight. Contracts of package sponsionref01's functions over this translation: rows of digits in memory, and the numbers that they say. Contracts of package sponsionref02's Row and Int over this translation: a number's digits, and the number of digits. -/
import Derived.Deep.RegionHeld
import Derived.Test.YtncnilplmklccaaGreatChecked
import Derived.Test.YtncnilplmklccaaGreatHide
import Derived.WalkKit
import Derived.WalkSpells
import Derived.WalkLawsBesides
import Derived.RegionTactic
import Derived.Deep.QuietTactic
import Derived.BigQuiet
import Derived.Deep.Light
import Derived.OpenShut
import Derived.Test.YtncnilplmklccaaGreatOwn
/- Steps of a region that draws its order, by hand: number k is taken first, or comes up. Each law reads the operation off the region's text. -/
namespace Go.Proofs.YtncnilplmklccaaGreat

theorem tk0 {P : Program} {md : Region.Mode} {Q : Exit → Act → World → Prop} {S : World → Prop} {o0 : Oper} {r : List Oper} {v : Value} {fuel : Nat} {listed : Array Bool} {a : Act} {w : World}
    (hs : Region.noSelect (o0 :: r).toArray = true) (hf : Region.free md (o0 :: r).toArray listed 0 = true) (hr : (Region.ready md (o0 :: r).toArray listed).contains 0 = true)
    (hQ : ∀ c a w, Q (.panic c) (a.put o0.dst v) w → Q (.panic c) a w) (hS : S w) (hy : YieldsIf P (o0 :: r).toArray S o0 v a)
    (h : wpAnyH P md (o0 :: r).toArray Q S fuel (listed.setIfInBounds 0 true) (a.put o0.dst v) w) : wpAnyH P md (o0 :: r).toArray Q S (fuel + 1) listed a w :=
  wpAnyH_take rfl hs hf hr hQ hy hS h
theorem rd0 {P : Program} {md : Region.Mode} {Q : Exit → Act → World → Prop} {S : World → Prop} {o0 : Oper} {r : List Oper} {fuel : Nat} {listed : Array Bool} {a : Act} {w : World} {rs : List Nat}
    (h : ∀ K' : Act → World → Prop, Shut (∀ a w, S w → (S w → wpAnyH P md (o0 :: r).toArray Q S fuel (listed.setIfInBounds 0 true) a w) → K' a w) → if Region.wanted o0 (yielded (o0 :: r).toArray a.tmps) = true then Oper.wp P o0 a w K' Q else K' (a.put o0.dst undef) w)
    (hs : AllReadyH P md (o0 :: r).toArray Q S fuel listed a w rs) : AllReadyH P md (o0 :: r).toArray Q S fuel listed a w (0 :: rs) :=
  AllReadyH.cons rfl h hs
theorem tk1 {P : Program} {md : Region.Mode} {Q : Exit → Act → World → Prop} {S : World → Prop} {o0 o1 : Oper} {r : List Oper} {v : Value} {fuel : Nat} {listed : Array Bool} {a : Act} {w : World}
    (hs : Region.noSelect (o0 :: o1 :: r).toArray = true) (hf : Region.free md (o0 :: o1 :: r).toArray listed 1 = true) (hr : (Region.ready md (o0 :: o1 :: r).toArray listed).contains 1 = true)
    (hQ : ∀ c a w, Q (.panic c) (a.put o1.dst v) w → Q (.panic c) a w) (hS : S w) (hy : YieldsIf P (o0 :: o1 :: r).toArray S o1 v a)
    (h : wpAnyH P md (o0 :: o1 :: r).toArray Q S fuel (listed.setIfInBounds 1 true) (a.put o1.dst v) w) : wpAnyH P md (o0 :: o1 :: r).toArray Q S (fuel + 1) listed a w :=
  wpAnyH_take rfl hs hf hr hQ hy hS h
theorem rd1 {P : Program} {md : Region.Mode} {Q : Exit → Act → World → Prop} {S : World → Prop} {o0 o1 : Oper} {r : List Oper} {fuel : Nat} {listed : Array Bool} {a : Act} {w : World} {rs : List Nat}
    (h : ∀ K' : Act → World → Prop, Shut (∀ a w, S w → (S w → wpAnyH P md (o0 :: o1 :: r).toArray Q S fuel (listed.setIfInBounds 1 true) a w) → K' a w) → if Region.wanted o1 (yielded (o0 :: o1 :: r).toArray a.tmps) = true then Oper.wp P o1 a w K' Q else K' (a.put o1.dst undef) w)
    (hs : AllReadyH P md (o0 :: o1 :: r).toArray Q S fuel listed a w rs) : AllReadyH P md (o0 :: o1 :: r).toArray Q S fuel listed a w (1 :: rs) :=
  AllReadyH.cons rfl h hs
theorem tk2 {P : Program} {md : Region.Mode} {Q : Exit → Act → World → Prop} {S : World → Prop} {o0 o1 o2 : Oper} {r : List Oper} {v : Value} {fuel : Nat} {listed : Array Bool} {a : Act} {w : World}
    (hs : Region.noSelect (o0 :: o1 :: o2 :: r).toArray = true) (hf : Region.free md (o0 :: o1 :: o2 :: r).toArray listed 2 = true) (hr : (Region.ready md (o0 :: o1 :: o2 :: r).toArray listed).contains 2 = true)
    (hQ : ∀ c a w, Q (.panic c) (a.put o2.dst v) w → Q (.panic c) a w) (hS : S w) (hy : YieldsIf P (o0 :: o1 :: o2 :: r).toArray S o2 v a)
    (h : wpAnyH P md (o0 :: o1 :: o2 :: r).toArray Q S fuel (listed.setIfInBounds 2 true) (a.put o2.dst v) w) : wpAnyH P md (o0 :: o1 :: o2 :: r).toArray Q S (fuel + 1) listed a w :=
  wpAnyH_take rfl hs hf hr hQ hy hS h
theorem rd2 {P : Program} {md : Region.Mode} {Q : Exit → Act → World → Prop} {S : World → Prop} {o0 o1 o2 : Oper} {r : List Oper} {fuel : Nat} {listed : Array Bool} {a : Act} {w : World} {rs : List Nat}
    (h : ∀ K' : Act → World → Prop, Shut (∀ a w, S w → (S w → wpAnyH P md (o0 :: o1 :: o2 :: r).toArray Q S fuel (listed.setIfInBounds 2 true) a w) → K' a w) → if Region.wanted o2 (yielded (o0 :: o1 :: o2 :: r).toArray a.tmps) = true then Oper.wp P o2 a w K' Q else K' (a.put o2.dst undef) w)
    (hs : AllReadyH P md (o0 :: o1 :: o2 :: r).toArray Q S fuel listed a w rs) : AllReadyH P md (o0 :: o1 :: o2 :: r).toArray Q S fuel listed a w (2 :: rs) :=
  AllReadyH.cons rfl h hs
theorem tk3 {P : Program} {md : Region.Mode} {Q : Exit → Act → World → Prop} {S : World → Prop} {o0 o1 o2 o3 : Oper} {r : List Oper} {v : Value} {fuel : Nat} {listed : Array Bool} {a : Act} {w : World}
    (hs : Region.noSelect (o0 :: o1 :: o2 :: o3 :: r).toArray = true) (hf : Region.free md (o0 :: o1 :: o2 :: o3 :: r).toArray listed 3 = true) (hr : (Region.ready md (o0 :: o1 :: o2 :: o3 :: r).toArray listed).contains 3 = true)
    (hQ : ∀ c a w, Q (.panic c) (a.put o3.dst v) w → Q (.panic c) a w) (hS : S w) (hy : YieldsIf P (o0 :: o1 :: o2 :: o3 :: r).toArray S o3 v a)
    (h : wpAnyH P md (o0 :: o1 :: o2 :: o3 :: r).toArray Q S fuel (listed.setIfInBounds 3 true) (a.put o3.dst v) w) : wpAnyH P md (o0 :: o1 :: o2 :: o3 :: r).toArray Q S (fuel + 1) listed a w :=
  wpAnyH_take rfl hs hf hr hQ hy hS h
theorem rd3 {P : Program} {md : Region.Mode} {Q : Exit → Act → World → Prop} {S : World → Prop} {o0 o1 o2 o3 : Oper} {r : List Oper} {fuel : Nat} {listed : Array Bool} {a : Act} {w : World} {rs : List Nat}
    (h : ∀ K' : Act → World → Prop, Shut (∀ a w, S w → (S w → wpAnyH P md (o0 :: o1 :: o2 :: o3 :: r).toArray Q S fuel (listed.setIfInBounds 3 true) a w) → K' a w) → if Region.wanted o3 (yielded (o0 :: o1 :: o2 :: o3 :: r).toArray a.tmps) = true then Oper.wp P o3 a w K' Q else K' (a.put o3.dst undef) w)
    (hs : AllReadyH P md (o0 :: o1 :: o2 :: o3 :: r).toArray Q S fuel listed a w rs) : AllReadyH P md (o0 :: o1 :: o2 :: o3 :: r).toArray Q S fuel listed a w (3 :: rs) :=
  AllReadyH.cons rfl h hs
theorem tk4 {P : Program} {md : Region.Mode} {Q : Exit → Act → World → Prop} {S : World → Prop} {o0 o1 o2 o3 o4 : Oper} {r : List Oper} {v : Value} {fuel : Nat} {listed : Array Bool} {a : Act} {w : World}
    (hs : Region.noSelect (o0 :: o1 :: o2 :: o3 :: o4 :: r).toArray = true) (hf : Region.free md (o0 :: o1 :: o2 :: o3 :: o4 :: r).toArray listed 4 = true) (hr : (Region.ready md (o0 :: o1 :: o2 :: o3 :: o4 :: r).toArray listed).contains 4 = true)
    (hQ : ∀ c a w, Q (.panic c) (a.put o4.dst v) w → Q (.panic c) a w) (hS : S w) (hy : YieldsIf P (o0 :: o1 :: o2 :: o3 :: o4 :: r).toArray S o4 v a)
    (h : wpAnyH P md (o0 :: o1 :: o2 :: o3 :: o4 :: r).toArray Q S fuel (listed.setIfInBounds 4 true) (a.put o4.dst v) w) : wpAnyH P md (o0 :: o1 :: o2 :: o3 :: o4 :: r).toArray Q S (fuel + 1) listed a w :=
  wpAnyH_take rfl hs hf hr hQ hy hS h
theorem rd4 {P : Program} {md : Region.Mode} {Q : Exit → Act → World → Prop} {S : World → Prop} {o0 o1 o2 o3 o4 : Oper} {r : List Oper} {fuel : Nat} {listed : Array Bool} {a : Act} {w : World} {rs : List Nat}
    (h : ∀ K' : Act → World → Prop, Shut (∀ a w, S w → (S w → wpAnyH P md (o0 :: o1 :: o2 :: o3 :: o4 :: r).toArray Q S fuel (listed.setIfInBounds 4 true) a w) → K' a w) → if Region.wanted o4 (yielded (o0 :: o1 :: o2 :: o3 :: o4 :: r).toArray a.tmps) = true then Oper.wp P o4 a w K' Q else K' (a.put o4.dst undef) w)
    (hs : AllReadyH P md (o0 :: o1 :: o2 :: o3 :: o4 :: r).toArray Q S fuel listed a w rs) : AllReadyH P md (o0 :: o1 :: o2 :: o3 :: o4 :: r).toArray Q S fuel listed a w (4 :: rs) :=
  AllReadyH.cons rfl h hs
theorem tk5 {P : Program} {md : Region.Mode} {Q : Exit → Act → World → Prop} {S : World → Prop} {o0 o1 o2 o3 o4 o5 : Oper} {r : List Oper} {v : Value} {fuel : Nat} {listed : Array Bool} {a : Act} {w : World}
    (hs : Region.noSelect (o0 :: o1 :: o2 :: o3 :: o4 :: o5 :: r).toArray = true) (hf : Region.free md (o0 :: o1 :: o2 :: o3 :: o4 :: o5 :: r).toArray listed 5 = true) (hr : (Region.ready md (o0 :: o1 :: o2 :: o3 :: o4 :: o5 :: r).toArray listed).contains 5 = true)
    (hQ : ∀ c a w, Q (.panic c) (a.put o5.dst v) w → Q (.panic c) a w) (hS : S w) (hy : YieldsIf P (o0 :: o1 :: o2 :: o3 :: o4 :: o5 :: r).toArray S o5 v a)
    (h : wpAnyH P md (o0 :: o1 :: o2 :: o3 :: o4 :: o5 :: r).toArray Q S fuel (listed.setIfInBounds 5 true) (a.put o5.dst v) w) : wpAnyH P md (o0 :: o1 :: o2 :: o3 :: o4 :: o5 :: r).toArray Q S (fuel + 1) listed a w :=
  wpAnyH_take rfl hs hf hr hQ hy hS h
theorem rd5 {P : Program} {md : Region.Mode} {Q : Exit → Act → World → Prop} {S : World → Prop} {o0 o1 o2 o3 o4 o5 : Oper} {r : List Oper} {fuel : Nat} {listed : Array Bool} {a : Act} {w : World} {rs : List Nat}
    (h : ∀ K' : Act → World → Prop, Shut (∀ a w, S w → (S w → wpAnyH P md (o0 :: o1 :: o2 :: o3 :: o4 :: o5 :: r).toArray Q S fuel (listed.setIfInBounds 5 true) a w) → K' a w) → if Region.wanted o5 (yielded (o0 :: o1 :: o2 :: o3 :: o4 :: o5 :: r).toArray a.tmps) = true then Oper.wp P o5 a w K' Q else K' (a.put o5.dst undef) w)
    (hs : AllReadyH P md (o0 :: o1 :: o2 :: o3 :: o4 :: o5 :: r).toArray Q S fuel listed a w rs) : AllReadyH P md (o0 :: o1 :: o2 :: o3 :: o4 :: o5 :: r).toArray Q S fuel listed a w (5 :: rs) :=
  AllReadyH.cons rfl h hs
theorem tk6 {P : Program} {md : Region.Mode} {Q : Exit → Act → World → Prop} {S : World → Prop} {o0 o1 o2 o3 o4 o5 o6 : Oper} {r : List Oper} {v : Value} {fuel : Nat} {listed : Array Bool} {a : Act} {w : World}
    (hs : Region.noSelect (o0 :: o1 :: o2 :: o3 :: o4 :: o5 :: o6 :: r).toArray = true) (hf : Region.free md (o0 :: o1 :: o2 :: o3 :: o4 :: o5 :: o6 :: r).toArray listed 6 = true) (hr : (Region.ready md (o0 :: o1 :: o2 :: o3 :: o4 :: o5 :: o6 :: r).toArray listed).contains 6 = true)
    (hQ : ∀ c a w, Q (.panic c) (a.put o6.dst v) w → Q (.panic c) a w) (hS : S w) (hy : YieldsIf P (o0 :: o1 :: o2 :: o3 :: o4 :: o5 :: o6 :: r).toArray S o6 v a)
    (h : wpAnyH P md (o0 :: o1 :: o2 :: o3 :: o4 :: o5 :: o6 :: r).toArray Q S fuel (listed.setIfInBounds 6 true) (a.put o6.dst v) w) : wpAnyH P md (o0 :: o1 :: o2 :: o3 :: o4 :: o5 :: o6 :: r).toArray Q S (fuel + 1) listed a w :=
  wpAnyH_take rfl hs hf hr hQ hy hS h
theorem rd6 {P : Program} {md : Region.Mode} {Q : Exit → Act → World → Prop} {S : World → Prop} {o0 o1 o2 o3 o4 o5 o6 : Oper} {r : List Oper} {fuel : Nat} {listed : Array Bool} {a : Act} {w : World} {rs : List Nat}
    (h : ∀ K' : Act → World → Prop, Shut (∀ a w, S w → (S w → wpAnyH P md (o0 :: o1 :: o2 :: o3 :: o4 :: o5 :: o6 :: r).toArray Q S fuel (listed.setIfInBounds 6 true) a w) → K' a w) → if Region.wanted o6 (yielded (o0 :: o1 :: o2 :: o3 :: o4 :: o5 :: o6 :: r).toArray a.tmps) = true then Oper.wp P o6 a w K' Q else K' (a.put o6.dst undef) w)
    (hs : AllReadyH P md (o0 :: o1 :: o2 :: o3 :: o4 :: o5 :: o6 :: r).toArray Q S fuel listed a w rs) : AllReadyH P md (o0 :: o1 :: o2 :: o3 :: o4 :: o5 :: o6 :: r).toArray Q S fuel listed a w (6 :: rs) :=
  AllReadyH.cons rfl h hs
theorem tk7 {P : Program} {md : Region.Mode} {Q : Exit → Act → World → Prop} {S : World → Prop} {o0 o1 o2 o3 o4 o5 o6 o7 : Oper} {r : List Oper} {v : Value} {fuel : Nat} {listed : Array Bool} {a : Act} {w : World}
    (hs : Region.noSelect (o0 :: o1 :: o2 :: o3 :: o4 :: o5 :: o6 :: o7 :: r).toArray = true) (hf : Region.free md (o0 :: o1 :: o2 :: o3 :: o4 :: o5 :: o6 :: o7 :: r).toArray listed 7 = true) (hr : (Region.ready md (o0 :: o1 :: o2 :: o3 :: o4 :: o5 :: o6 :: o7 :: r).toArray listed).contains 7 = true)
    (hQ : ∀ c a w, Q (.panic c) (a.put o7.dst v) w → Q (.panic c) a w) (hS : S w) (hy : YieldsIf P (o0 :: o1 :: o2 :: o3 :: o4 :: o5 :: o6 :: o7 :: r).toArray S o7 v a)
    (h : wpAnyH P md (o0 :: o1 :: o2 :: o3 :: o4 :: o5 :: o6 :: o7 :: r).toArray Q S fuel (listed.setIfInBounds 7 true) (a.put o7.dst v) w) : wpAnyH P md (o0 :: o1 :: o2 :: o3 :: o4 :: o5 :: o6 :: o7 :: r).toArray Q S (fuel + 1) listed a w :=
  wpAnyH_take rfl hs hf hr hQ hy hS h
theorem rd7 {P : Program} {md : Region.Mode} {Q : Exit → Act → World → Prop} {S : World → Prop} {o0 o1 o2 o3 o4 o5 o6 o7 : Oper} {r : List Oper} {fuel : Nat} {listed : Array Bool} {a : Act} {w : World} {rs : List Nat}
    (h : ∀ K' : Act → World → Prop, Shut (∀ a w, S w → (S w → wpAnyH P md (o0 :: o1 :: o2 :: o3 :: o4 :: o5 :: o6 :: o7 :: r).toArray Q S fuel (listed.setIfInBounds 7 true) a w) → K' a w) → if Region.wanted o7 (yielded (o0 :: o1 :: o2 :: o3 :: o4 :: o5 :: o6 :: o7 :: r).toArray a.tmps) = true then Oper.wp P o7 a w K' Q else K' (a.put o7.dst undef) w)
    (hs : AllReadyH P md (o0 :: o1 :: o2 :: o3 :: o4 :: o5 :: o6 :: o7 :: r).toArray Q S fuel listed a w rs) : AllReadyH P md (o0 :: o1 :: o2 :: o3 :: o4 :: o5 :: o6 :: o7 :: r).toArray Q S fuel listed a w (7 :: rs) :=
  AllReadyH.cons rfl h hs
theorem tk8 {P : Program} {md : Region.Mode} {Q : Exit → Act → World → Prop} {S : World → Prop} {o0 o1 o2 o3 o4 o5 o6 o7 o8 : Oper} {r : List Oper} {v : Value} {fuel : Nat} {listed : Array Bool} {a : Act} {w : World}
    (hs : Region.noSelect (o0 :: o1 :: o2 :: o3 :: o4 :: o5 :: o6 :: o7 :: o8 :: r).toArray = true) (hf : Region.free md (o0 :: o1 :: o2 :: o3 :: o4 :: o5 :: o6 :: o7 :: o8 :: r).toArray listed 8 = true) (hr : (Region.ready md (o0 :: o1 :: o2 :: o3 :: o4 :: o5 :: o6 :: o7 :: o8 :: r).toArray listed).contains 8 = true)
    (hQ : ∀ c a w, Q (.panic c) (a.put o8.dst v) w → Q (.panic c) a w) (hS : S w) (hy : YieldsIf P (o0 :: o1 :: o2 :: o3 :: o4 :: o5 :: o6 :: o7 :: o8 :: r).toArray S o8 v a)
    (h : wpAnyH P md (o0 :: o1 :: o2 :: o3 :: o4 :: o5 :: o6 :: o7 :: o8 :: r).toArray Q S fuel (listed.setIfInBounds 8 true) (a.put o8.dst v) w) : wpAnyH P md (o0 :: o1 :: o2 :: o3 :: o4 :: o5 :: o6 :: o7 :: o8 :: r).toArray Q S (fuel + 1) listed a w :=
  wpAnyH_take rfl hs hf hr hQ hy hS h
theorem rd8 {P : Program} {md : Region.Mode} {Q : Exit → Act → World → Prop} {S : World → Prop} {o0 o1 o2 o3 o4 o5 o6 o7 o8 : Oper} {r : List Oper} {fuel : Nat} {listed : Array Bool} {a : Act} {w : World} {rs : List Nat}
    (h : ∀ K' : Act → World → Prop, Shut (∀ a w, S w → (S w → wpAnyH P md (o0 :: o1 :: o2 :: o3 :: o4 :: o5 :: o6 :: o7 :: o8 :: r).toArray Q S fuel (listed.setIfInBounds 8 true) a w) → K' a w) → if Region.wanted o8 (yielded (o0 :: o1 :: o2 :: o3 :: o4 :: o5 :: o6 :: o7 :: o8 :: r).toArray a.tmps) = true then Oper.wp P o8 a w K' Q else K' (a.put o8.dst undef) w)
    (hs : AllReadyH P md (o0 :: o1 :: o2 :: o3 :: o4 :: o5 :: o6 :: o7 :: o8 :: r).toArray Q S fuel listed a w rs) : AllReadyH P md (o0 :: o1 :: o2 :: o3 :: o4 :: o5 :: o6 :: o7 :: o8 :: r).toArray Q S fuel listed a w (8 :: rs) :=
  AllReadyH.cons rfl h hs
theorem tk9 {P : Program} {md : Region.Mode} {Q : Exit → Act → World → Prop} {S : World → Prop} {o0 o1 o2 o3 o4 o5 o6 o7 o8 o9 : Oper} {r : List Oper} {v : Value} {fuel : Nat} {listed : Array Bool} {a : Act} {w : World}
    (hs : Region.noSelect (o0 :: o1 :: o2 :: o3 :: o4 :: o5 :: o6 :: o7 :: o8 :: o9 :: r).toArray = true) (hf : Region.free md (o0 :: o1 :: o2 :: o3 :: o4 :: o5 :: o6 :: o7 :: o8 :: o9 :: r).toArray listed 9 = true) (hr : (Region.ready md (o0 :: o1 :: o2 :: o3 :: o4 :: o5 :: o6 :: o7 :: o8 :: o9 :: r).toArray listed).contains 9 = true)
    (hQ : ∀ c a w, Q (.panic c) (a.put o9.dst v) w → Q (.panic c) a w) (hS : S w) (hy : YieldsIf P (o0 :: o1 :: o2 :: o3 :: o4 :: o5 :: o6 :: o7 :: o8 :: o9 :: r).toArray S o9 v a)
    (h : wpAnyH P md (o0 :: o1 :: o2 :: o3 :: o4 :: o5 :: o6 :: o7 :: o8 :: o9 :: r).toArray Q S fuel (listed.setIfInBounds 9 true) (a.put o9.dst v) w) : wpAnyH P md (o0 :: o1 :: o2 :: o3 :: o4 :: o5 :: o6 :: o7 :: o8 :: o9 :: r).toArray Q S (fuel + 1) listed a w :=
  wpAnyH_take rfl hs hf hr hQ hy hS h
theorem rd9 {P : Program} {md : Region.Mode} {Q : Exit → Act → World → Prop} {S : World → Prop} {o0 o1 o2 o3 o4 o5 o6 o7 o8 o9 : Oper} {r : List Oper} {fuel : Nat} {listed : Array Bool} {a : Act} {w : World} {rs : List Nat}
    (h : ∀ K' : Act → World → Prop, Shut (∀ a w, S w → (S w → wpAnyH P md (o0 :: o1 :: o2 :: o3 :: o4 :: o5 :: o6 :: o7 :: o8 :: o9 :: r).toArray Q S fuel (listed.setIfInBounds 9 true) a w) → K' a w) → if Region.wanted o9 (yielded (o0 :: o1 :: o2 :: o3 :: o4 :: o5 :: o6 :: o7 :: o8 :: o9 :: r).toArray a.tmps) = true then Oper.wp P o9 a w K' Q else K' (a.put o9.dst undef) w)
    (hs : AllReadyH P md (o0 :: o1 :: o2 :: o3 :: o4 :: o5 :: o6 :: o7 :: o8 :: o9 :: r).toArray Q S fuel listed a w rs) : AllReadyH P md (o0 :: o1 :: o2 :: o3 :: o4 :: o5 :: o6 :: o7 :: o8 :: o9 :: r).toArray Q S fuel listed a w (9 :: rs) :=
  AllReadyH.cons rfl h hs
theorem tk10 {P : Program} {md : Region.Mode} {Q : Exit → Act → World → Prop} {S : World → Prop} {o0 o1 o2 o3 o4 o5 o6 o7 o8 o9 o10 : Oper} {r : List Oper} {v : Value} {fuel : Nat} {listed : Array Bool} {a : Act} {w : World}
    (hs : Region.noSelect (o0 :: o1 :: o2 :: o3 :: o4 :: o5 :: o6 :: o7 :: o8 :: o9 :: o10 :: r).toArray = true) (hf : Region.free md (o0 :: o1 :: o2 :: o3 :: o4 :: o5 :: o6 :: o7 :: o8 :: o9 :: o10 :: r).toArray listed 10 = true) (hr : (Region.ready md (o0 :: o1 :: o2 :: o3 :: o4 :: o5 :: o6 :: o7 :: o8 :: o9 :: o10 :: r).toArray listed).contains 10 = true)
    (hQ : ∀ c a w, Q (.panic c) (a.put o10.dst v) w → Q (.panic c) a w) (hS : S w) (hy : YieldsIf P (o0 :: o1 :: o2 :: o3 :: o4 :: o5 :: o6 :: o7 :: o8 :: o9 :: o10 :: r).toArray S o10 v a)
    (h : wpAnyH P md (o0 :: o1 :: o2 :: o3 :: o4 :: o5 :: o6 :: o7 :: o8 :: o9 :: o10 :: r).toArray Q S fuel (listed.setIfInBounds 10 true) (a.put o10.dst v) w) : wpAnyH P md (o0 :: o1 :: o2 :: o3 :: o4 :: o5 :: o6 :: o7 :: o8 :: o9 :: o10 :: r).toArray Q S (fuel + 1) listed a w :=
  wpAnyH_take rfl hs hf hr hQ hy hS h
theorem rd10 {P : Program} {md : Region.Mode} {Q : Exit → Act → World → Prop} {S : World → Prop} {o0 o1 o2 o3 o4 o5 o6 o7 o8 o9 o10 : Oper} {r : List Oper} {fuel : Nat} {listed : Array Bool} {a : Act} {w : World} {rs : List Nat}
    (h : ∀ K' : Act → World → Prop, Shut (∀ a w, S w → (S w → wpAnyH P md (o0 :: o1 :: o2 :: o3 :: o4 :: o5 :: o6 :: o7 :: o8 :: o9 :: o10 :: r).toArray Q S fuel (listed.setIfInBounds 10 true) a w) → K' a w) → if Region.wanted o10 (yielded (o0 :: o1 :: o2 :: o3 :: o4 :: o5 :: o6 :: o7 :: o8 :: o9 :: o10 :: r).toArray a.tmps) = true then Oper.wp P o10 a w K' Q else K' (a.put o10.dst undef) w)
    (hs : AllReadyH P md (o0 :: o1 :: o2 :: o3 :: o4 :: o5 :: o6 :: o7 :: o8 :: o9 :: o10 :: r).toArray Q S fuel listed a w rs) : AllReadyH P md (o0 :: o1 :: o2 :: o3 :: o4 :: o5 :: o6 :: o7 :: o8 :: o9 :: o10 :: r).toArray Q S fuel listed a w (10 :: rs) :=
  AllReadyH.cons rfl h hs
theorem tk11 {P : Program} {md : Region.Mode} {Q : Exit → Act → World → Prop} {S : World → Prop} {o0 o1 o2 o3 o4 o5 o6 o7 o8 o9 o10 o11 : Oper} {r : List Oper} {v : Value} {fuel : Nat} {listed : Array Bool} {a : Act} {w : World}
    (hs : Region.noSelect (o0 :: o1 :: o2 :: o3 :: o4 :: o5 :: o6 :: o7 :: o8 :: o9 :: o10 :: o11 :: r).toArray = true) (hf : Region.free md (o0 :: o1 :: o2 :: o3 :: o4 :: o5 :: o6 :: o7 :: o8 :: o9 :: o10 :: o11 :: r).toArray listed 11 = true) (hr : (Region.ready md (o0 :: o1 :: o2 :: o3 :: o4 :: o5 :: o6 :: o7 :: o8 :: o9 :: o10 :: o11 :: r).toArray listed).contains 11 = true)
    (hQ : ∀ c a w, Q (.panic c) (a.put o11.dst v) w → Q (.panic c) a w) (hS : S w) (hy : YieldsIf P (o0 :: o1 :: o2 :: o3 :: o4 :: o5 :: o6 :: o7 :: o8 :: o9 :: o10 :: o11 :: r).toArray S o11 v a)
    (h : wpAnyH P md (o0 :: o1 :: o2 :: o3 :: o4 :: o5 :: o6 :: o7 :: o8 :: o9 :: o10 :: o11 :: r).toArray Q S fuel (listed.setIfInBounds 11 true) (a.put o11.dst v) w) : wpAnyH P md (o0 :: o1 :: o2 :: o3 :: o4 :: o5 :: o6 :: o7 :: o8 :: o9 :: o10 :: o11 :: r).toArray Q S (fuel + 1) listed a w :=
  wpAnyH_take rfl hs hf hr hQ hy hS h
theorem rd11 {P : Program} {md : Region.Mode} {Q : Exit → Act → World → Prop} {S : World → Prop} {o0 o1 o2 o3 o4 o5 o6 o7 o8 o9 o10 o11 : Oper} {r : List Oper} {fuel : Nat} {listed : Array Bool} {a : Act} {w : World} {rs : List Nat}
    (h : ∀ K' : Act → World → Prop, Shut (∀ a w, S w → (S w → wpAnyH P md (o0 :: o1 :: o2 :: o3 :: o4 :: o5 :: o6 :: o7 :: o8 :: o9 :: o10 :: o11 :: r).toArray Q S fuel (listed.setIfInBounds 11 true) a w) → K' a w) → if Region.wanted o11 (yielded (o0 :: o1 :: o2 :: o3 :: o4 :: o5 :: o6 :: o7 :: o8 :: o9 :: o10 :: o11 :: r).toArray a.tmps) = true then Oper.wp P o11 a w K' Q else K' (a.put o11.dst undef) w)
    (hs : AllReadyH P md (o0 :: o1 :: o2 :: o3 :: o4 :: o5 :: o6 :: o7 :: o8 :: o9 :: o10 :: o11 :: r).toArray Q S fuel listed a w rs) : AllReadyH P md (o0 :: o1 :: o2 :: o3 :: o4 :: o5 :: o6 :: o7 :: o8 :: o9 :: o10 :: o11 :: r).toArray Q S fuel listed a w (11 :: rs) :=
  AllReadyH.cons rfl h hs
theorem tk12 {P : Program} {md : Region.Mode} {Q : Exit → Act → World → Prop} {S : World → Prop} {o0 o1 o2 o3 o4 o5 o6 o7 o8 o9 o10 o11 o12 : Oper} {r : List Oper} {v : Value} {fuel : Nat} {listed : Array Bool} {a : Act} {w : World}
    (hs : Region.noSelect (o0 :: o1 :: o2 :: o3 :: o4 :: o5 :: o6 :: o7 :: o8 :: o9 :: o10 :: o11 :: o12 :: r).toArray = true) (hf : Region.free md (o0 :: o1 :: o2 :: o3 :: o4 :: o5 :: o6 :: o7 :: o8 :: o9 :: o10 :: o11 :: o12 :: r).toArray listed 12 = true) (hr : (Region.ready md (o0 :: o1 :: o2 :: o3 :: o4 :: o5 :: o6 :: o7 :: o8 :: o9 :: o10 :: o11 :: o12 :: r).toArray listed).contains 12 = true)
    (hQ : ∀ c a w, Q (.panic c) (a.put o12.dst v) w → Q (.panic c) a w) (hS : S w) (hy : YieldsIf P (o0 :: o1 :: o2 :: o3 :: o4 :: o5 :: o6 :: o7 :: o8 :: o9 :: o10 :: o11 :: o12 :: r).toArray S o12 v a)
    (h : wpAnyH P md (o0 :: o1 :: o2 :: o3 :: o4 :: o5 :: o6 :: o7 :: o8 :: o9 :: o10 :: o11 :: o12 :: r).toArray Q S fuel (listed.setIfInBounds 12 true) (a.put o12.dst v) w) : wpAnyH P md (o0 :: o1 :: o2 :: o3 :: o4 :: o5 :: o6 :: o7 :: o8 :: o9 :: o10 :: o11 :: o12 :: r).toArray Q S (fuel + 1) listed a w :=
  wpAnyH_take rfl hs hf hr hQ hy hS h
theorem rd12 {P : Program} {md : Region.Mode} {Q : Exit → Act → World → Prop} {S : World → Prop} {o0 o1 o2 o3 o4 o5 o6 o7 o8 o9 o10 o11 o12 : Oper} {r : List Oper} {fuel : Nat} {listed : Array Bool} {a : Act} {w : World} {rs : List Nat}
    (h : ∀ K' : Act → World → Prop, Shut (∀ a w, S w → (S w → wpAnyH P md (o0 :: o1 :: o2 :: o3 :: o4 :: o5 :: o6 :: o7 :: o8 :: o9 :: o10 :: o11 :: o12 :: r).toArray Q S fuel (listed.setIfInBounds 12 true) a w) → K' a w) → if Region.wanted o12 (yielded (o0 :: o1 :: o2 :: o3 :: o4 :: o5 :: o6 :: o7 :: o8 :: o9 :: o10 :: o11 :: o12 :: r).toArray a.tmps) = true then Oper.wp P o12 a w K' Q else K' (a.put o12.dst undef) w)
    (hs : AllReadyH P md (o0 :: o1 :: o2 :: o3 :: o4 :: o5 :: o6 :: o7 :: o8 :: o9 :: o10 :: o11 :: o12 :: r).toArray Q S fuel listed a w rs) : AllReadyH P md (o0 :: o1 :: o2 :: o3 :: o4 :: o5 :: o6 :: o7 :: o8 :: o9 :: o10 :: o11 :: o12 :: r).toArray Q S fuel listed a w (12 :: rs) :=
  AllReadyH.cons rfl h hs
theorem tk13 {P : Program} {md : Region.Mode} {Q : Exit → Act → World → Prop} {S : World → Prop} {o0 o1 o2 o3 o4 o5 o6 o7 o8 o9 o10 o11 o12 o13 : Oper} {r : List Oper} {v : Value} {fuel : Nat} {listed : Array Bool} {a : Act} {w : World}
    (hs : Region.noSelect (o0 :: o1 :: o2 :: o3 :: o4 :: o5 :: o6 :: o7 :: o8 :: o9 :: o10 :: o11 :: o12 :: o13 :: r).toArray = true) (hf : Region.free md (o0 :: o1 :: o2 :: o3 :: o4 :: o5 :: o6 :: o7 :: o8 :: o9 :: o10 :: o11 :: o12 :: o13 :: r).toArray listed 13 = true) (hr : (Region.ready md (o0 :: o1 :: o2 :: o3 :: o4 :: o5 :: o6 :: o7 :: o8 :: o9 :: o10 :: o11 :: o12 :: o13 :: r).toArray listed).contains 13 = true)
    (hQ : ∀ c a w, Q (.panic c) (a.put o13.dst v) w → Q (.panic c) a w) (hS : S w) (hy : YieldsIf P (o0 :: o1 :: o2 :: o3 :: o4 :: o5 :: o6 :: o7 :: o8 :: o9 :: o10 :: o11 :: o12 :: o13 :: r).toArray S o13 v a)
    (h : wpAnyH P md (o0 :: o1 :: o2 :: o3 :: o4 :: o5 :: o6 :: o7 :: o8 :: o9 :: o10 :: o11 :: o12 :: o13 :: r).toArray Q S fuel (listed.setIfInBounds 13 true) (a.put o13.dst v) w) : wpAnyH P md (o0 :: o1 :: o2 :: o3 :: o4 :: o5 :: o6 :: o7 :: o8 :: o9 :: o10 :: o11 :: o12 :: o13 :: r).toArray Q S (fuel + 1) listed a w :=
  wpAnyH_take rfl hs hf hr hQ hy hS h
theorem rd13 {P : Program} {md : Region.Mode} {Q : Exit → Act → World → Prop} {S : World → Prop} {o0 o1 o2 o3 o4 o5 o6 o7 o8 o9 o10 o11 o12 o13 : Oper} {r : List Oper} {fuel : Nat} {listed : Array Bool} {a : Act} {w : World} {rs : List Nat}
    (h : ∀ K' : Act → World → Prop, Shut (∀ a w, S w → (S w → wpAnyH P md (o0 :: o1 :: o2 :: o3 :: o4 :: o5 :: o6 :: o7 :: o8 :: o9 :: o10 :: o11 :: o12 :: o13 :: r).toArray Q S fuel (listed.setIfInBounds 13 true) a w) → K' a w) → if Region.wanted o13 (yielded (o0 :: o1 :: o2 :: o3 :: o4 :: o5 :: o6 :: o7 :: o8 :: o9 :: o10 :: o11 :: o12 :: o13 :: r).toArray a.tmps) = true then Oper.wp P o13 a w K' Q else K' (a.put o13.dst undef) w)
    (hs : AllReadyH P md (o0 :: o1 :: o2 :: o3 :: o4 :: o5 :: o6 :: o7 :: o8 :: o9 :: o10 :: o11 :: o12 :: o13 :: r).toArray Q S fuel listed a w rs) : AllReadyH P md (o0 :: o1 :: o2 :: o3 :: o4 :: o5 :: o6 :: o7 :: o8 :: o9 :: o10 :: o11 :: o12 :: o13 :: r).toArray Q S fuel listed a w (13 :: rs) :=
  AllReadyH.cons rfl h hs
theorem tk14 {P : Program} {md : Region.Mode} {Q : Exit → Act → World → Prop} {S : World → Prop} {o0 o1 o2 o3 o4 o5 o6 o7 o8 o9 o10 o11 o12 o13 o14 : Oper} {r : List Oper} {v : Value} {fuel : Nat} {listed : Array Bool} {a : Act} {w : World}
    (hs : Region.noSelect (o0 :: o1 :: o2 :: o3 :: o4 :: o5 :: o6 :: o7 :: o8 :: o9 :: o10 :: o11 :: o12 :: o13 :: o14 :: r).toArray = true) (hf : Region.free md (o0 :: o1 :: o2 :: o3 :: o4 :: o5 :: o6 :: o7 :: o8 :: o9 :: o10 :: o11 :: o12 :: o13 :: o14 :: r).toArray listed 14 = true) (hr : (Region.ready md (o0 :: o1 :: o2 :: o3 :: o4 :: o5 :: o6 :: o7 :: o8 :: o9 :: o10 :: o11 :: o12 :: o13 :: o14 :: r).toArray listed).contains 14 = true)
    (hQ : ∀ c a w, Q (.panic c) (a.put o14.dst v) w → Q (.panic c) a w) (hS : S w) (hy : YieldsIf P (o0 :: o1 :: o2 :: o3 :: o4 :: o5 :: o6 :: o7 :: o8 :: o9 :: o10 :: o11 :: o12 :: o13 :: o14 :: r).toArray S o14 v a)
    (h : wpAnyH P md (o0 :: o1 :: o2 :: o3 :: o4 :: o5 :: o6 :: o7 :: o8 :: o9 :: o10 :: o11 :: o12 :: o13 :: o14 :: r).toArray Q S fuel (listed.setIfInBounds 14 true) (a.put o14.dst v) w) : wpAnyH P md (o0 :: o1 :: o2 :: o3 :: o4 :: o5 :: o6 :: o7 :: o8 :: o9 :: o10 :: o11 :: o12 :: o13 :: o14 :: r).toArray Q S (fuel + 1) listed a w :=
  wpAnyH_take rfl hs hf hr hQ hy hS h
theorem rd14 {P : Program} {md : Region.Mode} {Q : Exit → Act → World → Prop} {S : World → Prop} {o0 o1 o2 o3 o4 o5 o6 o7 o8 o9 o10 o11 o12 o13 o14 : Oper} {r : List Oper} {fuel : Nat} {listed : Array Bool} {a : Act} {w : World} {rs : List Nat}
    (h : ∀ K' : Act → World → Prop, Shut (∀ a w, S w → (S w → wpAnyH P md (o0 :: o1 :: o2 :: o3 :: o4 :: o5 :: o6 :: o7 :: o8 :: o9 :: o10 :: o11 :: o12 :: o13 :: o14 :: r).toArray Q S fuel (listed.setIfInBounds 14 true) a w) → K' a w) → if Region.wanted o14 (yielded (o0 :: o1 :: o2 :: o3 :: o4 :: o5 :: o6 :: o7 :: o8 :: o9 :: o10 :: o11 :: o12 :: o13 :: o14 :: r).toArray a.tmps) = true then Oper.wp P o14 a w K' Q else K' (a.put o14.dst undef) w)
    (hs : AllReadyH P md (o0 :: o1 :: o2 :: o3 :: o4 :: o5 :: o6 :: o7 :: o8 :: o9 :: o10 :: o11 :: o12 :: o13 :: o14 :: r).toArray Q S fuel listed a w rs) : AllReadyH P md (o0 :: o1 :: o2 :: o3 :: o4 :: o5 :: o6 :: o7 :: o8 :: o9 :: o10 :: o11 :: o12 :: o13 :: o14 :: r).toArray Q S fuel listed a w (14 :: rs) :=
  AllReadyH.cons rfl h hs
theorem tk15 {P : Program} {md : Region.Mode} {Q : Exit → Act → World → Prop} {S : World → Prop} {o0 o1 o2 o3 o4 o5 o6 o7 o8 o9 o10 o11 o12 o13 o14 o15 : Oper} {r : List Oper} {v : Value} {fuel : Nat} {listed : Array Bool} {a : Act} {w : World}
    (hs : Region.noSelect (o0 :: o1 :: o2 :: o3 :: o4 :: o5 :: o6 :: o7 :: o8 :: o9 :: o10 :: o11 :: o12 :: o13 :: o14 :: o15 :: r).toArray = true) (hf : Region.free md (o0 :: o1 :: o2 :: o3 :: o4 :: o5 :: o6 :: o7 :: o8 :: o9 :: o10 :: o11 :: o12 :: o13 :: o14 :: o15 :: r).toArray listed 15 = true) (hr : (Region.ready md (o0 :: o1 :: o2 :: o3 :: o4 :: o5 :: o6 :: o7 :: o8 :: o9 :: o10 :: o11 :: o12 :: o13 :: o14 :: o15 :: r).toArray listed).contains 15 = true)
    (hQ : ∀ c a w, Q (.panic c) (a.put o15.dst v) w → Q (.panic c) a w) (hS : S w) (hy : YieldsIf P (o0 :: o1 :: o2 :: o3 :: o4 :: o5 :: o6 :: o7 :: o8 :: o9 :: o10 :: o11 :: o12 :: o13 :: o14 :: o15 :: r).toArray S o15 v a)
    (h : wpAnyH P md (o0 :: o1 :: o2 :: o3 :: o4 :: o5 :: o6 :: o7 :: o8 :: o9 :: o10 :: o11 :: o12 :: o13 :: o14 :: o15 :: r).toArray Q S fuel (listed.setIfInBounds 15 true) (a.put o15.dst v) w) : wpAnyH P md (o0 :: o1 :: o2 :: o3 :: o4 :: o5 :: o6 :: o7 :: o8 :: o9 :: o10 :: o11 :: o12 :: o13 :: o14 :: o15 :: r).toArray Q S (fuel + 1) listed a w :=
  wpAnyH_take rfl hs hf hr hQ hy hS h
theorem rd15 {P : Program} {md : Region.Mode} {Q : Exit → Act → World → Prop} {S : World → Prop} {o0 o1 o2 o3 o4 o5 o6 o7 o8 o9 o10 o11 o12 o13 o14 o15 : Oper} {r : List Oper} {fuel : Nat} {listed : Array Bool} {a : Act} {w : World} {rs : List Nat}
    (h : ∀ K' : Act → World → Prop, Shut (∀ a w, S w → (S w → wpAnyH P md (o0 :: o1 :: o2 :: o3 :: o4 :: o5 :: o6 :: o7 :: o8 :: o9 :: o10 :: o11 :: o12 :: o13 :: o14 :: o15 :: r).toArray Q S fuel (listed.setIfInBounds 15 true) a w) → K' a w) → if Region.wanted o15 (yielded (o0 :: o1 :: o2 :: o3 :: o4 :: o5 :: o6 :: o7 :: o8 :: o9 :: o10 :: o11 :: o12 :: o13 :: o14 :: o15 :: r).toArray a.tmps) = true then Oper.wp P o15 a w K' Q else K' (a.put o15.dst undef) w)
    (hs : AllReadyH P md (o0 :: o1 :: o2 :: o3 :: o4 :: o5 :: o6 :: o7 :: o8 :: o9 :: o10 :: o11 :: o12 :: o13 :: o14 :: o15 :: r).toArray Q S fuel listed a w rs) : AllReadyH P md (o0 :: o1 :: o2 :: o3 :: o4 :: o5 :: o6 :: o7 :: o8 :: o9 :: o10 :: o11 :: o12 :: o13 :: o14 :: o15 :: r).toArray Q S fuel listed a w (15 :: rs) :=
  AllReadyH.cons rfl h hs
theorem tk16 {P : Program} {md : Region.Mode} {Q : Exit → Act → World → Prop} {S : World → Prop} {o0 o1 o2 o3 o4 o5 o6 o7 o8 o9 o10 o11 o12 o13 o14 o15 o16 : Oper} {r : List Oper} {v : Value} {fuel : Nat} {listed : Array Bool} {a : Act} {w : World}
    (hs : Region.noSelect (o0 :: o1 :: o2 :: o3 :: o4 :: o5 :: o6 :: o7 :: o8 :: o9 :: o10 :: o11 :: o12 :: o13 :: o14 :: o15 :: o16 :: r).toArray = true) (hf : Region.free md (o0 :: o1 :: o2 :: o3 :: o4 :: o5 :: o6 :: o7 :: o8 :: o9 :: o10 :: o11 :: o12 :: o13 :: o14 :: o15 :: o16 :: r).toArray listed 16 = true) (hr : (Region.ready md (o0 :: o1 :: o2 :: o3 :: o4 :: o5 :: o6 :: o7 :: o8 :: o9 :: o10 :: o11 :: o12 :: o13 :: o14 :: o15 :: o16 :: r).toArray listed).contains 16 = true)
    (hQ : ∀ c a w, Q (.panic c) (a.put o16.dst v) w → Q (.panic c) a w) (hS : S w) (hy : YieldsIf P (o0 :: o1 :: o2 :: o3 :: o4 :: o5 :: o6 :: o7 :: o8 :: o9 :: o10 :: o11 :: o12 :: o13 :: o14 :: o15 :: o16 :: r).toArray S o16 v a)
    (h : wpAnyH P md (o0 :: o1 :: o2 :: o3 :: o4 :: o5 :: o6 :: o7 :: o8 :: o9 :: o10 :: o11 :: o12 :: o13 :: o14 :: o15 :: o16 :: r).toArray Q S fuel (listed.setIfInBounds 16 true) (a.put o16.dst v) w) : wpAnyH P md (o0 :: o1 :: o2 :: o3 :: o4 :: o5 :: o6 :: o7 :: o8 :: o9 :: o10 :: o11 :: o12 :: o13 :: o14 :: o15 :: o16 :: r).toArray Q S (fuel + 1) listed a w :=
  wpAnyH_take rfl hs hf hr hQ hy hS h
theorem rd16 {P : Program} {md : Region.Mode} {Q : Exit → Act → World → Prop} {S : World → Prop} {o0 o1 o2 o3 o4 o5 o6 o7 o8 o9 o10 o11 o12 o13 o14 o15 o16 : Oper} {r : List Oper} {fuel : Nat} {listed : Array Bool} {a : Act} {w : World} {rs : List Nat}
    (h : ∀ K' : Act → World → Prop, Shut (∀ a w, S w → (S w → wpAnyH P md (o0 :: o1 :: o2 :: o3 :: o4 :: o5 :: o6 :: o7 :: o8 :: o9 :: o10 :: o11 :: o12 :: o13 :: o14 :: o15 :: o16 :: r).toArray Q S fuel (listed.setIfInBounds 16 true) a w) → K' a w) → if Region.wanted o16 (yielded (o0 :: o1 :: o2 :: o3 :: o4 :: o5 :: o6 :: o7 :: o8 :: o9 :: o10 :: o11 :: o12 :: o13 :: o14 :: o15 :: o16 :: r).toArray a.tmps) = true then Oper.wp P o16 a w K' Q else K' (a.put o16.dst undef) w)
    (hs : AllReadyH P md (o0 :: o1 :: o2 :: o3 :: o4 :: o5 :: o6 :: o7 :: o8 :: o9 :: o10 :: o11 :: o12 :: o13 :: o14 :: o15 :: o16 :: r).toArray Q S fuel listed a w rs) : AllReadyH P md (o0 :: o1 :: o2 :: o3 :: o4 :: o5 :: o6 :: o7 :: o8 :: o9 :: o10 :: o11 :: o12 :: o13 :: o14 :: o15 :: o16 :: r).toArray Q S fuel listed a w (16 :: rs) :=
  AllReadyH.cons rfl h hs
theorem tk17 {P : Program} {md : Region.Mode} {Q : Exit → Act → World → Prop} {S : World → Prop} {o0 o1 o2 o3 o4 o5 o6 o7 o8 o9 o10 o11 o12 o13 o14 o15 o16 o17 : Oper} {r : List Oper} {v : Value} {fuel : Nat} {listed : Array Bool} {a : Act} {w : World}
    (hs : Region.noSelect (o0 :: o1 :: o2 :: o3 :: o4 :: o5 :: o6 :: o7 :: o8 :: o9 :: o10 :: o11 :: o12 :: o13 :: o14 :: o15 :: o16 :: o17 :: r).toArray = true) (hf : Region.free md (o0 :: o1 :: o2 :: o3 :: o4 :: o5 :: o6 :: o7 :: o8 :: o9 :: o10 :: o11 :: o12 :: o13 :: o14 :: o15 :: o16 :: o17 :: r).toArray listed 17 = true) (hr : (Region.ready md (o0 :: o1 :: o2 :: o3 :: o4 :: o5 :: o6 :: o7 :: o8 :: o9 :: o10 :: o11 :: o12 :: o13 :: o14 :: o15 :: o16 :: o17 :: r).toArray listed).contains 17 = true)
    (hQ : ∀ c a w, Q (.panic c) (a.put o17.dst v) w → Q (.panic c) a w) (hS : S w) (hy : YieldsIf P (o0 :: o1 :: o2 :: o3 :: o4 :: o5 :: o6 :: o7 :: o8 :: o9 :: o10 :: o11 :: o12 :: o13 :: o14 :: o15 :: o16 :: o17 :: r).toArray S o17 v a)
    (h : wpAnyH P md (o0 :: o1 :: o2 :: o3 :: o4 :: o5 :: o6 :: o7 :: o8 :: o9 :: o10 :: o11 :: o12 :: o13 :: o14 :: o15 :: o16 :: o17 :: r).toArray Q S fuel (listed.setIfInBounds 17 true) (a.put o17.dst v) w) : wpAnyH P md (o0 :: o1 :: o2 :: o3 :: o4 :: o5 :: o6 :: o7 :: o8 :: o9 :: o10 :: o11 :: o12 :: o13 :: o14 :: o15 :: o16 :: o17 :: r).toArray Q S (fuel + 1) listed a w :=
  wpAnyH_take rfl hs hf hr hQ hy hS h
theorem rd17 {P : Program} {md : Region.Mode} {Q : Exit → Act → World → Prop} {S : World → Prop} {o0 o1 o2 o3 o4 o5 o6 o7 o8 o9 o10 o11 o12 o13 o14 o15 o16 o17 : Oper} {r : List Oper} {fuel : Nat} {listed : Array Bool} {a : Act} {w : World} {rs : List Nat}
    (h : ∀ K' : Act → World → Prop, Shut (∀ a w, S w → (S w → wpAnyH P md (o0 :: o1 :: o2 :: o3 :: o4 :: o5 :: o6 :: o7 :: o8 :: o9 :: o10 :: o11 :: o12 :: o13 :: o14 :: o15 :: o16 :: o17 :: r).toArray Q S fuel (listed.setIfInBounds 17 true) a w) → K' a w) → if Region.wanted o17 (yielded (o0 :: o1 :: o2 :: o3 :: o4 :: o5 :: o6 :: o7 :: o8 :: o9 :: o10 :: o11 :: o12 :: o13 :: o14 :: o15 :: o16 :: o17 :: r).toArray a.tmps) = true then Oper.wp P o17 a w K' Q else K' (a.put o17.dst undef) w)
    (hs : AllReadyH P md (o0 :: o1 :: o2 :: o3 :: o4 :: o5 :: o6 :: o7 :: o8 :: o9 :: o10 :: o11 :: o12 :: o13 :: o14 :: o15 :: o16 :: o17 :: r).toArray Q S fuel listed a w rs) : AllReadyH P md (o0 :: o1 :: o2 :: o3 :: o4 :: o5 :: o6 :: o7 :: o8 :: o9 :: o10 :: o11 :: o12 :: o13 :: o14 :: o15 :: o16 :: o17 :: r).toArray Q S fuel listed a w (17 :: rs) :=
  AllReadyH.cons rfl h hs
theorem tk18 {P : Program} {md : Region.Mode} {Q : Exit → Act → World → Prop} {S : World → Prop} {o0 o1 o2 o3 o4 o5 o6 o7 o8 o9 o10 o11 o12 o13 o14 o15 o16 o17 o18 : Oper} {r : List Oper} {v : Value} {fuel : Nat} {listed : Array Bool} {a : Act} {w : World}
    (hs : Region.noSelect (o0 :: o1 :: o2 :: o3 :: o4 :: o5 :: o6 :: o7 :: o8 :: o9 :: o10 :: o11 :: o12 :: o13 :: o14 :: o15 :: o16 :: o17 :: o18 :: r).toArray = true) (hf : Region.free md (o0 :: o1 :: o2 :: o3 :: o4 :: o5 :: o6 :: o7 :: o8 :: o9 :: o10 :: o11 :: o12 :: o13 :: o14 :: o15 :: o16 :: o17 :: o18 :: r).toArray listed 18 = true) (hr : (Region.ready md (o0 :: o1 :: o2 :: o3 :: o4 :: o5 :: o6 :: o7 :: o8 :: o9 :: o10 :: o11 :: o12 :: o13 :: o14 :: o15 :: o16 :: o17 :: o18 :: r).toArray listed).contains 18 = true)
    (hQ : ∀ c a w, Q (.panic c) (a.put o18.dst v) w → Q (.panic c) a w) (hS : S w) (hy : YieldsIf P (o0 :: o1 :: o2 :: o3 :: o4 :: o5 :: o6 :: o7 :: o8 :: o9 :: o10 :: o11 :: o12 :: o13 :: o14 :: o15 :: o16 :: o17 :: o18 :: r).toArray S o18 v a)
    (h : wpAnyH P md (o0 :: o1 :: o2 :: o3 :: o4 :: o5 :: o6 :: o7 :: o8 :: o9 :: o10 :: o11 :: o12 :: o13 :: o14 :: o15 :: o16 :: o17 :: o18 :: r).toArray Q S fuel (listed.setIfInBounds 18 true) (a.put o18.dst v) w) : wpAnyH P md (o0 :: o1 :: o2 :: o3 :: o4 :: o5 :: o6 :: o7 :: o8 :: o9 :: o10 :: o11 :: o12 :: o13 :: o14 :: o15 :: o16 :: o17 :: o18 :: r).toArray Q S (fuel + 1) listed a w :=
  wpAnyH_take rfl hs hf hr hQ hy hS h
theorem rd18 {P : Program} {md : Region.Mode} {Q : Exit → Act → World → Prop} {S : World → Prop} {o0 o1 o2 o3 o4 o5 o6 o7 o8 o9 o10 o11 o12 o13 o14 o15 o16 o17 o18 : Oper} {r : List Oper} {fuel : Nat} {listed : Array Bool} {a : Act} {w : World} {rs : List Nat}
    (h : ∀ K' : Act → World → Prop, Shut (∀ a w, S w → (S w → wpAnyH P md (o0 :: o1 :: o2 :: o3 :: o4 :: o5 :: o6 :: o7 :: o8 :: o9 :: o10 :: o11 :: o12 :: o13 :: o14 :: o15 :: o16 :: o17 :: o18 :: r).toArray Q S fuel (listed.setIfInBounds 18 true) a w) → K' a w) → if Region.wanted o18 (yielded (o0 :: o1 :: o2 :: o3 :: o4 :: o5 :: o6 :: o7 :: o8 :: o9 :: o10 :: o11 :: o12 :: o13 :: o14 :: o15 :: o16 :: o17 :: o18 :: r).toArray a.tmps) = true then Oper.wp P o18 a w K' Q else K' (a.put o18.dst undef) w)
    (hs : AllReadyH P md (o0 :: o1 :: o2 :: o3 :: o4 :: o5 :: o6 :: o7 :: o8 :: o9 :: o10 :: o11 :: o12 :: o13 :: o14 :: o15 :: o16 :: o17 :: o18 :: r).toArray Q S fuel listed a w rs) : AllReadyH P md (o0 :: o1 :: o2 :: o3 :: o4 :: o5 :: o6 :: o7 :: o8 :: o9 :: o10 :: o11 :: o12 :: o13 :: o14 :: o15 :: o16 :: o17 :: o18 :: r).toArray Q S fuel listed a w (18 :: rs) :=
  AllReadyH.cons rfl h hs
theorem tk19 {P : Program} {md : Region.Mode} {Q : Exit → Act → World → Prop} {S : World → Prop} {o0 o1 o2 o3 o4 o5 o6 o7 o8 o9 o10 o11 o12 o13 o14 o15 o16 o17 o18 o19 : Oper} {r : List Oper} {v : Value} {fuel : Nat} {listed : Array Bool} {a : Act} {w : World}
    (hs : Region.noSelect (o0 :: o1 :: o2 :: o3 :: o4 :: o5 :: o6 :: o7 :: o8 :: o9 :: o10 :: o11 :: o12 :: o13 :: o14 :: o15 :: o16 :: o17 :: o18 :: o19 :: r).toArray = true) (hf : Region.free md (o0 :: o1 :: o2 :: o3 :: o4 :: o5 :: o6 :: o7 :: o8 :: o9 :: o10 :: o11 :: o12 :: o13 :: o14 :: o15 :: o16 :: o17 :: o18 :: o19 :: r).toArray listed 19 = true) (hr : (Region.ready md (o0 :: o1 :: o2 :: o3 :: o4 :: o5 :: o6 :: o7 :: o8 :: o9 :: o10 :: o11 :: o12 :: o13 :: o14 :: o15 :: o16 :: o17 :: o18 :: o19 :: r).toArray listed).contains 19 = true)
    (hQ : ∀ c a w, Q (.panic c) (a.put o19.dst v) w → Q (.panic c) a w) (hS : S w) (hy : YieldsIf P (o0 :: o1 :: o2 :: o3 :: o4 :: o5 :: o6 :: o7 :: o8 :: o9 :: o10 :: o11 :: o12 :: o13 :: o14 :: o15 :: o16 :: o17 :: o18 :: o19 :: r).toArray S o19 v a)
    (h : wpAnyH P md (o0 :: o1 :: o2 :: o3 :: o4 :: o5 :: o6 :: o7 :: o8 :: o9 :: o10 :: o11 :: o12 :: o13 :: o14 :: o15 :: o16 :: o17 :: o18 :: o19 :: r).toArray Q S fuel (listed.setIfInBounds 19 true) (a.put o19.dst v) w) : wpAnyH P md (o0 :: o1 :: o2 :: o3 :: o4 :: o5 :: o6 :: o7 :: o8 :: o9 :: o10 :: o11 :: o12 :: o13 :: o14 :: o15 :: o16 :: o17 :: o18 :: o19 :: r).toArray Q S (fuel + 1) listed a w :=
  wpAnyH_take rfl hs hf hr hQ hy hS h
theorem rd19 {P : Program} {md : Region.Mode} {Q : Exit → Act → World → Prop} {S : World → Prop} {o0 o1 o2 o3 o4 o5 o6 o7 o8 o9 o10 o11 o12 o13 o14 o15 o16 o17 o18 o19 : Oper} {r : List Oper} {fuel : Nat} {listed : Array Bool} {a : Act} {w : World} {rs : List Nat}
    (h : ∀ K' : Act → World → Prop, Shut (∀ a w, S w → (S w → wpAnyH P md (o0 :: o1 :: o2 :: o3 :: o4 :: o5 :: o6 :: o7 :: o8 :: o9 :: o10 :: o11 :: o12 :: o13 :: o14 :: o15 :: o16 :: o17 :: o18 :: o19 :: r).toArray Q S fuel (listed.setIfInBounds 19 true) a w) → K' a w) → if Region.wanted o19 (yielded (o0 :: o1 :: o2 :: o3 :: o4 :: o5 :: o6 :: o7 :: o8 :: o9 :: o10 :: o11 :: o12 :: o13 :: o14 :: o15 :: o16 :: o17 :: o18 :: o19 :: r).toArray a.tmps) = true then Oper.wp P o19 a w K' Q else K' (a.put o19.dst undef) w)
    (hs : AllReadyH P md (o0 :: o1 :: o2 :: o3 :: o4 :: o5 :: o6 :: o7 :: o8 :: o9 :: o10 :: o11 :: o12 :: o13 :: o14 :: o15 :: o16 :: o17 :: o18 :: o19 :: r).toArray Q S fuel listed a w rs) : AllReadyH P md (o0 :: o1 :: o2 :: o3 :: o4 :: o5 :: o6 :: o7 :: o8 :: o9 :: o10 :: o11 :: o12 :: o13 :: o14 :: o15 :: o16 :: o17 :: o18 :: o19 :: r).toArray Q S fuel listed a w (19 :: rs) :=
  AllReadyH.cons rfl h hs
theorem tk20 {P : Program} {md : Region.Mode} {Q : Exit → Act → World → Prop} {S : World → Prop} {o0 o1 o2 o3 o4 o5 o6 o7 o8 o9 o10 o11 o12 o13 o14 o15 o16 o17 o18 o19 o20 : Oper} {r : List Oper} {v : Value} {fuel : Nat} {listed : Array Bool} {a : Act} {w : World}
    (hs : Region.noSelect (o0 :: o1 :: o2 :: o3 :: o4 :: o5 :: o6 :: o7 :: o8 :: o9 :: o10 :: o11 :: o12 :: o13 :: o14 :: o15 :: o16 :: o17 :: o18 :: o19 :: o20 :: r).toArray = true) (hf : Region.free md (o0 :: o1 :: o2 :: o3 :: o4 :: o5 :: o6 :: o7 :: o8 :: o9 :: o10 :: o11 :: o12 :: o13 :: o14 :: o15 :: o16 :: o17 :: o18 :: o19 :: o20 :: r).toArray listed 20 = true) (hr : (Region.ready md (o0 :: o1 :: o2 :: o3 :: o4 :: o5 :: o6 :: o7 :: o8 :: o9 :: o10 :: o11 :: o12 :: o13 :: o14 :: o15 :: o16 :: o17 :: o18 :: o19 :: o20 :: r).toArray listed).contains 20 = true)
    (hQ : ∀ c a w, Q (.panic c) (a.put o20.dst v) w → Q (.panic c) a w) (hS : S w) (hy : YieldsIf P (o0 :: o1 :: o2 :: o3 :: o4 :: o5 :: o6 :: o7 :: o8 :: o9 :: o10 :: o11 :: o12 :: o13 :: o14 :: o15 :: o16 :: o17 :: o18 :: o19 :: o20 :: r).toArray S o20 v a)
    (h : wpAnyH P md (o0 :: o1 :: o2 :: o3 :: o4 :: o5 :: o6 :: o7 :: o8 :: o9 :: o10 :: o11 :: o12 :: o13 :: o14 :: o15 :: o16 :: o17 :: o18 :: o19 :: o20 :: r).toArray Q S fuel (listed.setIfInBounds 20 true) (a.put o20.dst v) w) : wpAnyH P md (o0 :: o1 :: o2 :: o3 :: o4 :: o5 :: o6 :: o7 :: o8 :: o9 :: o10 :: o11 :: o12 :: o13 :: o14 :: o15 :: o16 :: o17 :: o18 :: o19 :: o20 :: r).toArray Q S (fuel + 1) listed a w :=
  wpAnyH_take rfl hs hf hr hQ hy hS h
theorem rd20 {P : Program} {md : Region.Mode} {Q : Exit → Act → World → Prop} {S : World → Prop} {o0 o1 o2 o3 o4 o5 o6 o7 o8 o9 o10 o11 o12 o13 o14 o15 o16 o17 o18 o19 o20 : Oper} {r : List Oper} {fuel : Nat} {listed : Array Bool} {a : Act} {w : World} {rs : List Nat}
    (h : ∀ K' : Act → World → Prop, Shut (∀ a w, S w → (S w → wpAnyH P md (o0 :: o1 :: o2 :: o3 :: o4 :: o5 :: o6 :: o7 :: o8 :: o9 :: o10 :: o11 :: o12 :: o13 :: o14 :: o15 :: o16 :: o17 :: o18 :: o19 :: o20 :: r).toArray Q S fuel (listed.setIfInBounds 20 true) a w) → K' a w) → if Region.wanted o20 (yielded (o0 :: o1 :: o2 :: o3 :: o4 :: o5 :: o6 :: o7 :: o8 :: o9 :: o10 :: o11 :: o12 :: o13 :: o14 :: o15 :: o16 :: o17 :: o18 :: o19 :: o20 :: r).toArray a.tmps) = true then Oper.wp P o20 a w K' Q else K' (a.put o20.dst undef) w)
    (hs : AllReadyH P md (o0 :: o1 :: o2 :: o3 :: o4 :: o5 :: o6 :: o7 :: o8 :: o9 :: o10 :: o11 :: o12 :: o13 :: o14 :: o15 :: o16 :: o17 :: o18 :: o19 :: o20 :: r).toArray Q S fuel listed a w rs) : AllReadyH P md (o0 :: o1 :: o2 :: o3 :: o4 :: o5 :: o6 :: o7 :: o8 :: o9 :: o10 :: o11 :: o12 :: o13 :: o14 :: o15 :: o16 :: o17 :: o18 :: o19 :: o20 :: r).toArray Q S fuel listed a w (20 :: rs) :=
  AllReadyH.cons rfl h hs
theorem tk21 {P : Program} {md : Region.Mode} {Q : Exit → Act → World → Prop} {S : World → Prop} {o0 o1 o2 o3 o4 o5 o6 o7 o8 o9 o10 o11 o12 o13 o14 o15 o16 o17 o18 o19 o20 o21 : Oper} {r : List Oper} {v : Value} {fuel : Nat} {listed : Array Bool} {a : Act} {w : World}
    (hs : Region.noSelect (o0 :: o1 :: o2 :: o3 :: o4 :: o5 :: o6 :: o7 :: o8 :: o9 :: o10 :: o11 :: o12 :: o13 :: o14 :: o15 :: o16 :: o17 :: o18 :: o19 :: o20 :: o21 :: r).toArray = true) (hf : Region.free md (o0 :: o1 :: o2 :: o3 :: o4 :: o5 :: o6 :: o7 :: o8 :: o9 :: o10 :: o11 :: o12 :: o13 :: o14 :: o15 :: o16 :: o17 :: o18 :: o19 :: o20 :: o21 :: r).toArray listed 21 = true) (hr : (Region.ready md (o0 :: o1 :: o2 :: o3 :: o4 :: o5 :: o6 :: o7 :: o8 :: o9 :: o10 :: o11 :: o12 :: o13 :: o14 :: o15 :: o16 :: o17 :: o18 :: o19 :: o20 :: o21 :: r).toArray listed).contains 21 = true)
    (hQ : ∀ c a w, Q (.panic c) (a.put o21.dst v) w → Q (.panic c) a w) (hS : S w) (hy : YieldsIf P (o0 :: o1 :: o2 :: o3 :: o4 :: o5 :: o6 :: o7 :: o8 :: o9 :: o10 :: o11 :: o12 :: o13 :: o14 :: o15 :: o16 :: o17 :: o18 :: o19 :: o20 :: o21 :: r).toArray S o21 v a)
    (h : wpAnyH P md (o0 :: o1 :: o2 :: o3 :: o4 :: o5 :: o6 :: o7 :: o8 :: o9 :: o10 :: o11 :: o12 :: o13 :: o14 :: o15 :: o16 :: o17 :: o18 :: o19 :: o20 :: o21 :: r).toArray Q S fuel (listed.setIfInBounds 21 true) (a.put o21.dst v) w) : wpAnyH P md (o0 :: o1 :: o2 :: o3 :: o4 :: o5 :: o6 :: o7 :: o8 :: o9 :: o10 :: o11 :: o12 :: o13 :: o14 :: o15 :: o16 :: o17 :: o18 :: o19 :: o20 :: o21 :: r).toArray Q S (fuel + 1) listed a w :=
  wpAnyH_take rfl hs hf hr hQ hy hS h
theorem rd21 {P : Program} {md : Region.Mode} {Q : Exit → Act → World → Prop} {S : World → Prop} {o0 o1 o2 o3 o4 o5 o6 o7 o8 o9 o10 o11 o12 o13 o14 o15 o16 o17 o18 o19 o20 o21 : Oper} {r : List Oper} {fuel : Nat} {listed : Array Bool} {a : Act} {w : World} {rs : List Nat}
    (h : ∀ K' : Act → World → Prop, Shut (∀ a w, S w → (S w → wpAnyH P md (o0 :: o1 :: o2 :: o3 :: o4 :: o5 :: o6 :: o7 :: o8 :: o9 :: o10 :: o11 :: o12 :: o13 :: o14 :: o15 :: o16 :: o17 :: o18 :: o19 :: o20 :: o21 :: r).toArray Q S fuel (listed.setIfInBounds 21 true) a w) → K' a w) → if Region.wanted o21 (yielded (o0 :: o1 :: o2 :: o3 :: o4 :: o5 :: o6 :: o7 :: o8 :: o9 :: o10 :: o11 :: o12 :: o13 :: o14 :: o15 :: o16 :: o17 :: o18 :: o19 :: o20 :: o21 :: r).toArray a.tmps) = true then Oper.wp P o21 a w K' Q else K' (a.put o21.dst undef) w)
    (hs : AllReadyH P md (o0 :: o1 :: o2 :: o3 :: o4 :: o5 :: o6 :: o7 :: o8 :: o9 :: o10 :: o11 :: o12 :: o13 :: o14 :: o15 :: o16 :: o17 :: o18 :: o19 :: o20 :: o21 :: r).toArray Q S fuel listed a w rs) : AllReadyH P md (o0 :: o1 :: o2 :: o3 :: o4 :: o5 :: o6 :: o7 :: o8 :: o9 :: o10 :: o11 :: o12 :: o13 :: o14 :: o15 :: o16 :: o17 :: o18 :: o19 :: o20 :: o21 :: r).toArray Q S fuel listed a w (21 :: rs) :=
  AllReadyH.cons rfl h hs
theorem tk22 {P : Program} {md : Region.Mode} {Q : Exit → Act → World → Prop} {S : World → Prop} {o0 o1 o2 o3 o4 o5 o6 o7 o8 o9 o10 o11 o12 o13 o14 o15 o16 o17 o18 o19 o20 o21 o22 : Oper} {r : List Oper} {v : Value} {fuel : Nat} {listed : Array Bool} {a : Act} {w : World}
    (hs : Region.noSelect (o0 :: o1 :: o2 :: o3 :: o4 :: o5 :: o6 :: o7 :: o8 :: o9 :: o10 :: o11 :: o12 :: o13 :: o14 :: o15 :: o16 :: o17 :: o18 :: o19 :: o20 :: o21 :: o22 :: r).toArray = true) (hf : Region.free md (o0 :: o1 :: o2 :: o3 :: o4 :: o5 :: o6 :: o7 :: o8 :: o9 :: o10 :: o11 :: o12 :: o13 :: o14 :: o15 :: o16 :: o17 :: o18 :: o19 :: o20 :: o21 :: o22 :: r).toArray listed 22 = true) (hr : (Region.ready md (o0 :: o1 :: o2 :: o3 :: o4 :: o5 :: o6 :: o7 :: o8 :: o9 :: o10 :: o11 :: o12 :: o13 :: o14 :: o15 :: o16 :: o17 :: o18 :: o19 :: o20 :: o21 :: o22 :: r).toArray listed).contains 22 = true)
    (hQ : ∀ c a w, Q (.panic c) (a.put o22.dst v) w → Q (.panic c) a w) (hS : S w) (hy : YieldsIf P (o0 :: o1 :: o2 :: o3 :: o4 :: o5 :: o6 :: o7 :: o8 :: o9 :: o10 :: o11 :: o12 :: o13 :: o14 :: o15 :: o16 :: o17 :: o18 :: o19 :: o20 :: o21 :: o22 :: r).toArray S o22 v a)
    (h : wpAnyH P md (o0 :: o1 :: o2 :: o3 :: o4 :: o5 :: o6 :: o7 :: o8 :: o9 :: o10 :: o11 :: o12 :: o13 :: o14 :: o15 :: o16 :: o17 :: o18 :: o19 :: o20 :: o21 :: o22 :: r).toArray Q S fuel (listed.setIfInBounds 22 true) (a.put o22.dst v) w) : wpAnyH P md (o0 :: o1 :: o2 :: o3 :: o4 :: o5 :: o6 :: o7 :: o8 :: o9 :: o10 :: o11 :: o12 :: o13 :: o14 :: o15 :: o16 :: o17 :: o18 :: o19 :: o20 :: o21 :: o22 :: r).toArray Q S (fuel + 1) listed a w :=
  wpAnyH_take rfl hs hf hr hQ hy hS h
theorem rd22 {P : Program} {md : Region.Mode} {Q : Exit → Act → World → Prop} {S : World → Prop} {o0 o1 o2 o3 o4 o5 o6 o7 o8 o9 o10 o11 o12 o13 o14 o15 o16 o17 o18 o19 o20 o21 o22 : Oper} {r : List Oper} {fuel : Nat} {listed : Array Bool} {a : Act} {w : World} {rs : List Nat}
    (h : ∀ K' : Act → World → Prop, Shut (∀ a w, S w → (S w → wpAnyH P md (o0 :: o1 :: o2 :: o3 :: o4 :: o5 :: o6 :: o7 :: o8 :: o9 :: o10 :: o11 :: o12 :: o13 :: o14 :: o15 :: o16 :: o17 :: o18 :: o19 :: o20 :: o21 :: o22 :: r).toArray Q S fuel (listed.setIfInBounds 22 true) a w) → K' a w) → if Region.wanted o22 (yielded (o0 :: o1 :: o2 :: o3 :: o4 :: o5 :: o6 :: o7 :: o8 :: o9 :: o10 :: o11 :: o12 :: o13 :: o14 :: o15 :: o16 :: o17 :: o18 :: o19 :: o20 :: o21 :: o22 :: r).toArray a.tmps) = true then Oper.wp P o22 a w K' Q else K' (a.put o22.dst undef) w)
    (hs : AllReadyH P md (o0 :: o1 :: o2 :: o3 :: o4 :: o5 :: o6 :: o7 :: o8 :: o9 :: o10 :: o11 :: o12 :: o13 :: o14 :: o15 :: o16 :: o17 :: o18 :: o19 :: o20 :: o21 :: o22 :: r).toArray Q S fuel listed a w rs) : AllReadyH P md (o0 :: o1 :: o2 :: o3 :: o4 :: o5 :: o6 :: o7 :: o8 :: o9 :: o10 :: o11 :: o12 :: o13 :: o14 :: o15 :: o16 :: o17 :: o18 :: o19 :: o20 :: o21 :: o22 :: r).toArray Q S fuel listed a w (22 :: rs) :=
  AllReadyH.cons rfl h hs
theorem tk23 {P : Program} {md : Region.Mode} {Q : Exit → Act → World → Prop} {S : World → Prop} {o0 o1 o2 o3 o4 o5 o6 o7 o8 o9 o10 o11 o12 o13 o14 o15 o16 o17 o18 o19 o20 o21 o22 o23 : Oper} {r : List Oper} {v : Value} {fuel : Nat} {listed : Array Bool} {a : Act} {w : World}
    (hs : Region.noSelect (o0 :: o1 :: o2 :: o3 :: o4 :: o5 :: o6 :: o7 :: o8 :: o9 :: o10 :: o11 :: o12 :: o13 :: o14 :: o15 :: o16 :: o17 :: o18 :: o19 :: o20 :: o21 :: o22 :: o23 :: r).toArray = true) (hf : Region.free md (o0 :: o1 :: o2 :: o3 :: o4 :: o5 :: o6 :: o7 :: o8 :: o9 :: o10 :: o11 :: o12 :: o13 :: o14 :: o15 :: o16 :: o17 :: o18 :: o19 :: o20 :: o21 :: o22 :: o23 :: r).toArray listed 23 = true) (hr : (Region.ready md (o0 :: o1 :: o2 :: o3 :: o4 :: o5 :: o6 :: o7 :: o8 :: o9 :: o10 :: o11 :: o12 :: o13 :: o14 :: o15 :: o16 :: o17 :: o18 :: o19 :: o20 :: o21 :: o22 :: o23 :: r).toArray listed).contains 23 = true)
    (hQ : ∀ c a w, Q (.panic c) (a.put o23.dst v) w → Q (.panic c) a w) (hS : S w) (hy : YieldsIf P (o0 :: o1 :: o2 :: o3 :: o4 :: o5 :: o6 :: o7 :: o8 :: o9 :: o10 :: o11 :: o12 :: o13 :: o14 :: o15 :: o16 :: o17 :: o18 :: o19 :: o20 :: o21 :: o22 :: o23 :: r).toArray S o23 v a)
    (h : wpAnyH P md (o0 :: o1 :: o2 :: o3 :: o4 :: o5 :: o6 :: o7 :: o8 :: o9 :: o10 :: o11 :: o12 :: o13 :: o14 :: o15 :: o16 :: o17 :: o18 :: o19 :: o20 :: o21 :: o22 :: o23 :: r).toArray Q S fuel (listed.setIfInBounds 23 true) (a.put o23.dst v) w) : wpAnyH P md (o0 :: o1 :: o2 :: o3 :: o4 :: o5 :: o6 :: o7 :: o8 :: o9 :: o10 :: o11 :: o12 :: o13 :: o14 :: o15 :: o16 :: o17 :: o18 :: o19 :: o20 :: o21 :: o22 :: o23 :: r).toArray Q S (fuel + 1) listed a w :=
  wpAnyH_take rfl hs hf hr hQ hy hS h
theorem rd23 {P : Program} {md : Region.Mode} {Q : Exit → Act → World → Prop} {S : World → Prop} {o0 o1 o2 o3 o4 o5 o6 o7 o8 o9 o10 o11 o12 o13 o14 o15 o16 o17 o18 o19 o20 o21 o22 o23 : Oper} {r : List Oper} {fuel : Nat} {listed : Array Bool} {a : Act} {w : World} {rs : List Nat}
    (h : ∀ K' : Act → World → Prop, Shut (∀ a w, S w → (S w → wpAnyH P md (o0 :: o1 :: o2 :: o3 :: o4 :: o5 :: o6 :: o7 :: o8 :: o9 :: o10 :: o11 :: o12 :: o13 :: o14 :: o15 :: o16 :: o17 :: o18 :: o19 :: o20 :: o21 :: o22 :: o23 :: r).toArray Q S fuel (listed.setIfInBounds 23 true) a w) → K' a w) → if Region.wanted o23 (yielded (o0 :: o1 :: o2 :: o3 :: o4 :: o5 :: o6 :: o7 :: o8 :: o9 :: o10 :: o11 :: o12 :: o13 :: o14 :: o15 :: o16 :: o17 :: o18 :: o19 :: o20 :: o21 :: o22 :: o23 :: r).toArray a.tmps) = true then Oper.wp P o23 a w K' Q else K' (a.put o23.dst undef) w)
    (hs : AllReadyH P md (o0 :: o1 :: o2 :: o3 :: o4 :: o5 :: o6 :: o7 :: o8 :: o9 :: o10 :: o11 :: o12 :: o13 :: o14 :: o15 :: o16 :: o17 :: o18 :: o19 :: o20 :: o21 :: o22 :: o23 :: r).toArray Q S fuel listed a w rs) : AllReadyH P md (o0 :: o1 :: o2 :: o3 :: o4 :: o5 :: o6 :: o7 :: o8 :: o9 :: o10 :: o11 :: o12 :: o13 :: o14 :: o15 :: o16 :: o17 :: o18 :: o19 :: o20 :: o21 :: o22 :: o23 :: r).toArray Q S fuel listed a w (23 :: rs) :=
  AllReadyH.cons rfl h hs
theorem tk24 {P : Program} {md : Region.Mode} {Q : Exit → Act → World → Prop} {S : World → Prop} {o0 o1 o2 o3 o4 o5 o6 o7 o8 o9 o10 o11 o12 o13 o14 o15 o16 o17 o18 o19 o20 o21 o22 o23 o24 : Oper} {r : List Oper} {v : Value} {fuel : Nat} {listed : Array Bool} {a : Act} {w : World}
    (hs : Region.noSelect (o0 :: o1 :: o2 :: o3 :: o4 :: o5 :: o6 :: o7 :: o8 :: o9 :: o10 :: o11 :: o12 :: o13 :: o14 :: o15 :: o16 :: o17 :: o18 :: o19 :: o20 :: o21 :: o22 :: o23 :: o24 :: r).toArray = true) (hf : Region.free md (o0 :: o1 :: o2 :: o3 :: o4 :: o5 :: o6 :: o7 :: o8 :: o9 :: o10 :: o11 :: o12 :: o13 :: o14 :: o15 :: o16 :: o17 :: o18 :: o19 :: o20 :: o21 :: o22 :: o23 :: o24 :: r).toArray listed 24 = true) (hr : (Region.ready md (o0 :: o1 :: o2 :: o3 :: o4 :: o5 :: o6 :: o7 :: o8 :: o9 :: o10 :: o11 :: o12 :: o13 :: o14 :: o15 :: o16 :: o17 :: o18 :: o19 :: o20 :: o21 :: o22 :: o23 :: o24 :: r).toArray listed).contains 24 = true)
    (hQ : ∀ c a w, Q (.panic c) (a.put o24.dst v) w → Q (.panic c) a w) (hS : S w) (hy : YieldsIf P (o0 :: o1 :: o2 :: o3 :: o4 :: o5 :: o6 :: o7 :: o8 :: o9 :: o10 :: o11 :: o12 :: o13 :: o14 :: o15 :: o16 :: o17 :: o18 :: o19 :: o20 :: o21 :: o22 :: o23 :: o24 :: r).toArray S o24 v a)
    (h : wpAnyH P md (o0 :: o1 :: o2 :: o3 :: o4 :: o5 :: o6 :: o7 :: o8 :: o9 :: o10 :: o11 :: o12 :: o13 :: o14 :: o15 :: o16 :: o17 :: o18 :: o19 :: o20 :: o21 :: o22 :: o23 :: o24 :: r).toArray Q S fuel (listed.setIfInBounds 24 true) (a.put o24.dst v) w) : wpAnyH P md (o0 :: o1 :: o2 :: o3 :: o4 :: o5 :: o6 :: o7 :: o8 :: o9 :: o10 :: o11 :: o12 :: o13 :: o14 :: o15 :: o16 :: o17 :: o18 :: o19 :: o20 :: o21 :: o22 :: o23 :: o24 :: r).toArray Q S (fuel + 1) listed a w :=
  wpAnyH_take rfl hs hf hr hQ hy hS h
theorem rd24 {P : Program} {md : Region.Mode} {Q : Exit → Act → World → Prop} {S : World → Prop} {o0 o1 o2 o3 o4 o5 o6 o7 o8 o9 o10 o11 o12 o13 o14 o15 o16 o17 o18 o19 o20 o21 o22 o23 o24 : Oper} {r : List Oper} {fuel : Nat} {listed : Array Bool} {a : Act} {w : World} {rs : List Nat}
    (h : ∀ K' : Act → World → Prop, Shut (∀ a w, S w → (S w → wpAnyH P md (o0 :: o1 :: o2 :: o3 :: o4 :: o5 :: o6 :: o7 :: o8 :: o9 :: o10 :: o11 :: o12 :: o13 :: o14 :: o15 :: o16 :: o17 :: o18 :: o19 :: o20 :: o21 :: o22 :: o23 :: o24 :: r).toArray Q S fuel (listed.setIfInBounds 24 true) a w) → K' a w) → if Region.wanted o24 (yielded (o0 :: o1 :: o2 :: o3 :: o4 :: o5 :: o6 :: o7 :: o8 :: o9 :: o10 :: o11 :: o12 :: o13 :: o14 :: o15 :: o16 :: o17 :: o18 :: o19 :: o20 :: o21 :: o22 :: o23 :: o24 :: r).toArray a.tmps) = true then Oper.wp P o24 a w K' Q else K' (a.put o24.dst undef) w)
    (hs : AllReadyH P md (o0 :: o1 :: o2 :: o3 :: o4 :: o5 :: o6 :: o7 :: o8 :: o9 :: o10 :: o11 :: o12 :: o13 :: o14 :: o15 :: o16 :: o17 :: o18 :: o19 :: o20 :: o21 :: o22 :: o23 :: o24 :: r).toArray Q S fuel listed a w rs) : AllReadyH P md (o0 :: o1 :: o2 :: o3 :: o4 :: o5 :: o6 :: o7 :: o8 :: o9 :: o10 :: o11 :: o12 :: o13 :: o14 :: o15 :: o16 :: o17 :: o18 :: o19 :: o20 :: o21 :: o22 :: o23 :: o24 :: r).toArray Q S fuel listed a w (24 :: rs) :=
  AllReadyH.cons rfl h hs
theorem tk25 {P : Program} {md : Region.Mode} {Q : Exit → Act → World → Prop} {S : World → Prop} {o0 o1 o2 o3 o4 o5 o6 o7 o8 o9 o10 o11 o12 o13 o14 o15 o16 o17 o18 o19 o20 o21 o22 o23 o24 o25 : Oper} {r : List Oper} {v : Value} {fuel : Nat} {listed : Array Bool} {a : Act} {w : World}
    (hs : Region.noSelect (o0 :: o1 :: o2 :: o3 :: o4 :: o5 :: o6 :: o7 :: o8 :: o9 :: o10 :: o11 :: o12 :: o13 :: o14 :: o15 :: o16 :: o17 :: o18 :: o19 :: o20 :: o21 :: o22 :: o23 :: o24 :: o25 :: r).toArray = true) (hf : Region.free md (o0 :: o1 :: o2 :: o3 :: o4 :: o5 :: o6 :: o7 :: o8 :: o9 :: o10 :: o11 :: o12 :: o13 :: o14 :: o15 :: o16 :: o17 :: o18 :: o19 :: o20 :: o21 :: o22 :: o23 :: o24 :: o25 :: r).toArray listed 25 = true) (hr : (Region.ready md (o0 :: o1 :: o2 :: o3 :: o4 :: o5 :: o6 :: o7 :: o8 :: o9 :: o10 :: o11 :: o12 :: o13 :: o14 :: o15 :: o16 :: o17 :: o18 :: o19 :: o20 :: o21 :: o22 :: o23 :: o24 :: o25 :: r).toArray listed).contains 25 = true)
    (hQ : ∀ c a w, Q (.panic c) (a.put o25.dst v) w → Q (.panic c) a w) (hS : S w) (hy : YieldsIf P (o0 :: o1 :: o2 :: o3 :: o4 :: o5 :: o6 :: o7 :: o8 :: o9 :: o10 :: o11 :: o12 :: o13 :: o14 :: o15 :: o16 :: o17 :: o18 :: o19 :: o20 :: o21 :: o22 :: o23 :: o24 :: o25 :: r).toArray S o25 v a)
    (h : wpAnyH P md (o0 :: o1 :: o2 :: o3 :: o4 :: o5 :: o6 :: o7 :: o8 :: o9 :: o10 :: o11 :: o12 :: o13 :: o14 :: o15 :: o16 :: o17 :: o18 :: o19 :: o20 :: o21 :: o22 :: o23 :: o24 :: o25 :: r).toArray Q S fuel (listed.setIfInBounds 25 true) (a.put o25.dst v) w) : wpAnyH P md (o0 :: o1 :: o2 :: o3 :: o4 :: o5 :: o6 :: o7 :: o8 :: o9 :: o10 :: o11 :: o12 :: o13 :: o14 :: o15 :: o16 :: o17 :: o18 :: o19 :: o20 :: o21 :: o22 :: o23 :: o24 :: o25 :: r).toArray Q S (fuel + 1) listed a w :=
  wpAnyH_take rfl hs hf hr hQ hy hS h
theorem rd25 {P : Program} {md : Region.Mode} {Q : Exit → Act → World → Prop} {S : World → Prop} {o0 o1 o2 o3 o4 o5 o6 o7 o8 o9 o10 o11 o12 o13 o14 o15 o16 o17 o18 o19 o20 o21 o22 o23 o24 o25 : Oper} {r : List Oper} {fuel : Nat} {listed : Array Bool} {a : Act} {w : World} {rs : List Nat}
    (h : ∀ K' : Act → World → Prop, Shut (∀ a w, S w → (S w → wpAnyH P md (o0 :: o1 :: o2 :: o3 :: o4 :: o5 :: o6 :: o7 :: o8 :: o9 :: o10 :: o11 :: o12 :: o13 :: o14 :: o15 :: o16 :: o17 :: o18 :: o19 :: o20 :: o21 :: o22 :: o23 :: o24 :: o25 :: r).toArray Q S fuel (listed.setIfInBounds 25 true) a w) → K' a w) → if Region.wanted o25 (yielded (o0 :: o1 :: o2 :: o3 :: o4 :: o5 :: o6 :: o7 :: o8 :: o9 :: o10 :: o11 :: o12 :: o13 :: o14 :: o15 :: o16 :: o17 :: o18 :: o19 :: o20 :: o21 :: o22 :: o23 :: o24 :: o25 :: r).toArray a.tmps) = true then Oper.wp P o25 a w K' Q else K' (a.put o25.dst undef) w)
    (hs : AllReadyH P md (o0 :: o1 :: o2 :: o3 :: o4 :: o5 :: o6 :: o7 :: o8 :: o9 :: o10 :: o11 :: o12 :: o13 :: o14 :: o15 :: o16 :: o17 :: o18 :: o19 :: o20 :: o21 :: o22 :: o23 :: o24 :: o25 :: r).toArray Q S fuel listed a w rs) : AllReadyH P md (o0 :: o1 :: o2 :: o3 :: o4 :: o5 :: o6 :: o7 :: o8 :: o9 :: o10 :: o11 :: o12 :: o13 :: o14 :: o15 :: o16 :: o17 :: o18 :: o19 :: o20 :: o21 :: o22 :: o23 :: o24 :: o25 :: r).toArray Q S fuel listed a w (25 :: rs) :=
  AllReadyH.cons rfl h hs
theorem tk26 {P : Program} {md : Region.Mode} {Q : Exit → Act → World → Prop} {S : World → Prop} {o0 o1 o2 o3 o4 o5 o6 o7 o8 o9 o10 o11 o12 o13 o14 o15 o16 o17 o18 o19 o20 o21 o22 o23 o24 o25 o26 : Oper} {r : List Oper} {v : Value} {fuel : Nat} {listed : Array Bool} {a : Act} {w : World}
    (hs : Region.noSelect (o0 :: o1 :: o2 :: o3 :: o4 :: o5 :: o6 :: o7 :: o8 :: o9 :: o10 :: o11 :: o12 :: o13 :: o14 :: o15 :: o16 :: o17 :: o18 :: o19 :: o20 :: o21 :: o22 :: o23 :: o24 :: o25 :: o26 :: r).toArray = true) (hf : Region.free md (o0 :: o1 :: o2 :: o3 :: o4 :: o5 :: o6 :: o7 :: o8 :: o9 :: o10 :: o11 :: o12 :: o13 :: o14 :: o15 :: o16 :: o17 :: o18 :: o19 :: o20 :: o21 :: o22 :: o23 :: o24 :: o25 :: o26 :: r).toArray listed 26 = true) (hr : (Region.ready md (o0 :: o1 :: o2 :: o3 :: o4 :: o5 :: o6 :: o7 :: o8 :: o9 :: o10 :: o11 :: o12 :: o13 :: o14 :: o15 :: o16 :: o17 :: o18 :: o19 :: o20 :: o21 :: o22 :: o23 :: o24 :: o25 :: o26 :: r).toArray listed).contains 26 = true)
    (hQ : ∀ c a w, Q (.panic c) (a.put o26.dst v) w → Q (.panic c) a w) (hS : S w) (hy : YieldsIf P (o0 :: o1 :: o2 :: o3 :: o4 :: o5 :: o6 :: o7 :: o8 :: o9 :: o10 :: o11 :: o12 :: o13 :: o14 :: o15 :: o16 :: o17 :: o18 :: o19 :: o20 :: o21 :: o22 :: o23 :: o24 :: o25 :: o26 :: r).toArray S o26 v a)
    (h : wpAnyH P md (o0 :: o1 :: o2 :: o3 :: o4 :: o5 :: o6 :: o7 :: o8 :: o9 :: o10 :: o11 :: o12 :: o13 :: o14 :: o15 :: o16 :: o17 :: o18 :: o19 :: o20 :: o21 :: o22 :: o23 :: o24 :: o25 :: o26 :: r).toArray Q S fuel (listed.setIfInBounds 26 true) (a.put o26.dst v) w) : wpAnyH P md (o0 :: o1 :: o2 :: o3 :: o4 :: o5 :: o6 :: o7 :: o8 :: o9 :: o10 :: o11 :: o12 :: o13 :: o14 :: o15 :: o16 :: o17 :: o18 :: o19 :: o20 :: o21 :: o22 :: o23 :: o24 :: o25 :: o26 :: r).toArray Q S (fuel + 1) listed a w :=
  wpAnyH_take rfl hs hf hr hQ hy hS h
theorem rd26 {P : Program} {md : Region.Mode} {Q : Exit → Act → World → Prop} {S : World → Prop} {o0 o1 o2 o3 o4 o5 o6 o7 o8 o9 o10 o11 o12 o13 o14 o15 o16 o17 o18 o19 o20 o21 o22 o23 o24 o25 o26 : Oper} {r : List Oper} {fuel : Nat} {listed : Array Bool} {a : Act} {w : World} {rs : List Nat}
    (h : ∀ K' : Act → World → Prop, Shut (∀ a w, S w → (S w → wpAnyH P md (o0 :: o1 :: o2 :: o3 :: o4 :: o5 :: o6 :: o7 :: o8 :: o9 :: o10 :: o11 :: o12 :: o13 :: o14 :: o15 :: o16 :: o17 :: o18 :: o19 :: o20 :: o21 :: o22 :: o23 :: o24 :: o25 :: o26 :: r).toArray Q S fuel (listed.setIfInBounds 26 true) a w) → K' a w) → if Region.wanted o26 (yielded (o0 :: o1 :: o2 :: o3 :: o4 :: o5 :: o6 :: o7 :: o8 :: o9 :: o10 :: o11 :: o12 :: o13 :: o14 :: o15 :: o16 :: o17 :: o18 :: o19 :: o20 :: o21 :: o22 :: o23 :: o24 :: o25 :: o26 :: r).toArray a.tmps) = true then Oper.wp P o26 a w K' Q else K' (a.put o26.dst undef) w)
    (hs : AllReadyH P md (o0 :: o1 :: o2 :: o3 :: o4 :: o5 :: o6 :: o7 :: o8 :: o9 :: o10 :: o11 :: o12 :: o13 :: o14 :: o15 :: o16 :: o17 :: o18 :: o19 :: o20 :: o21 :: o22 :: o23 :: o24 :: o25 :: o26 :: r).toArray Q S fuel listed a w rs) : AllReadyH P md (o0 :: o1 :: o2 :: o3 :: o4 :: o5 :: o6 :: o7 :: o8 :: o9 :: o10 :: o11 :: o12 :: o13 :: o14 :: o15 :: o16 :: o17 :: o18 :: o19 :: o20 :: o21 :: o22 :: o23 :: o24 :: o25 :: o26 :: r).toArray Q S fuel listed a w (26 :: rs) :=
  AllReadyH.cons rfl h hs
theorem tk27 {P : Program} {md : Region.Mode} {Q : Exit → Act → World → Prop} {S : World → Prop} {o0 o1 o2 o3 o4 o5 o6 o7 o8 o9 o10 o11 o12 o13 o14 o15 o16 o17 o18 o19 o20 o21 o22 o23 o24 o25 o26 o27 : Oper} {r : List Oper} {v : Value} {fuel : Nat} {listed : Array Bool} {a : Act} {w : World}
    (hs : Region.noSelect (o0 :: o1 :: o2 :: o3 :: o4 :: o5 :: o6 :: o7 :: o8 :: o9 :: o10 :: o11 :: o12 :: o13 :: o14 :: o15 :: o16 :: o17 :: o18 :: o19 :: o20 :: o21 :: o22 :: o23 :: o24 :: o25 :: o26 :: o27 :: r).toArray = true) (hf : Region.free md (o0 :: o1 :: o2 :: o3 :: o4 :: o5 :: o6 :: o7 :: o8 :: o9 :: o10 :: o11 :: o12 :: o13 :: o14 :: o15 :: o16 :: o17 :: o18 :: o19 :: o20 :: o21 :: o22 :: o23 :: o24 :: o25 :: o26 :: o27 :: r).toArray listed 27 = true) (hr : (Region.ready md (o0 :: o1 :: o2 :: o3 :: o4 :: o5 :: o6 :: o7 :: o8 :: o9 :: o10 :: o11 :: o12 :: o13 :: o14 :: o15 :: o16 :: o17 :: o18 :: o19 :: o20 :: o21 :: o22 :: o23 :: o24 :: o25 :: o26 :: o27 :: r).toArray listed).contains 27 = true)
    (hQ : ∀ c a w, Q (.panic c) (a.put o27.dst v) w → Q (.panic c) a w) (hS : S w) (hy : YieldsIf P (o0 :: o1 :: o2 :: o3 :: o4 :: o5 :: o6 :: o7 :: o8 :: o9 :: o10 :: o11 :: o12 :: o13 :: o14 :: o15 :: o16 :: o17 :: o18 :: o19 :: o20 :: o21 :: o22 :: o23 :: o24 :: o25 :: o26 :: o27 :: r).toArray S o27 v a)
    (h : wpAnyH P md (o0 :: o1 :: o2 :: o3 :: o4 :: o5 :: o6 :: o7 :: o8 :: o9 :: o10 :: o11 :: o12 :: o13 :: o14 :: o15 :: o16 :: o17 :: o18 :: o19 :: o20 :: o21 :: o22 :: o23 :: o24 :: o25 :: o26 :: o27 :: r).toArray Q S fuel (listed.setIfInBounds 27 true) (a.put o27.dst v) w) : wpAnyH P md (o0 :: o1 :: o2 :: o3 :: o4 :: o5 :: o6 :: o7 :: o8 :: o9 :: o10 :: o11 :: o12 :: o13 :: o14 :: o15 :: o16 :: o17 :: o18 :: o19 :: o20 :: o21 :: o22 :: o23 :: o24 :: o25 :: o26 :: o27 :: r).toArray Q S (fuel + 1) listed a w :=
  wpAnyH_take rfl hs hf hr hQ hy hS h
theorem rd27 {P : Program} {md : Region.Mode} {Q : Exit → Act → World → Prop} {S : World → Prop} {o0 o1 o2 o3 o4 o5 o6 o7 o8 o9 o10 o11 o12 o13 o14 o15 o16 o17 o18 o19 o20 o21 o22 o23 o24 o25 o26 o27 : Oper} {r : List Oper} {fuel : Nat} {listed : Array Bool} {a : Act} {w : World} {rs : List Nat}
    (h : ∀ K' : Act → World → Prop, Shut (∀ a w, S w → (S w → wpAnyH P md (o0 :: o1 :: o2 :: o3 :: o4 :: o5 :: o6 :: o7 :: o8 :: o9 :: o10 :: o11 :: o12 :: o13 :: o14 :: o15 :: o16 :: o17 :: o18 :: o19 :: o20 :: o21 :: o22 :: o23 :: o24 :: o25 :: o26 :: o27 :: r).toArray Q S fuel (listed.setIfInBounds 27 true) a w) → K' a w) → if Region.wanted o27 (yielded (o0 :: o1 :: o2 :: o3 :: o4 :: o5 :: o6 :: o7 :: o8 :: o9 :: o10 :: o11 :: o12 :: o13 :: o14 :: o15 :: o16 :: o17 :: o18 :: o19 :: o20 :: o21 :: o22 :: o23 :: o24 :: o25 :: o26 :: o27 :: r).toArray a.tmps) = true then Oper.wp P o27 a w K' Q else K' (a.put o27.dst undef) w)
    (hs : AllReadyH P md (o0 :: o1 :: o2 :: o3 :: o4 :: o5 :: o6 :: o7 :: o8 :: o9 :: o10 :: o11 :: o12 :: o13 :: o14 :: o15 :: o16 :: o17 :: o18 :: o19 :: o20 :: o21 :: o22 :: o23 :: o24 :: o25 :: o26 :: o27 :: r).toArray Q S fuel listed a w rs) : AllReadyH P md (o0 :: o1 :: o2 :: o3 :: o4 :: o5 :: o6 :: o7 :: o8 :: o9 :: o10 :: o11 :: o12 :: o13 :: o14 :: o15 :: o16 :: o17 :: o18 :: o19 :: o20 :: o21 :: o22 :: o23 :: o24 :: o25 :: o26 :: o27 :: r).toArray Q S fuel listed a w (27 :: rs) :=
  AllReadyH.cons rfl h hs
theorem tk28 {P : Program} {md : Region.Mode} {Q : Exit → Act → World → Prop} {S : World → Prop} {o0 o1 o2 o3 o4 o5 o6 o7 o8 o9 o10 o11 o12 o13 o14 o15 o16 o17 o18 o19 o20 o21 o22 o23 o24 o25 o26 o27 o28 : Oper} {r : List Oper} {v : Value} {fuel : Nat} {listed : Array Bool} {a : Act} {w : World}
    (hs : Region.noSelect (o0 :: o1 :: o2 :: o3 :: o4 :: o5 :: o6 :: o7 :: o8 :: o9 :: o10 :: o11 :: o12 :: o13 :: o14 :: o15 :: o16 :: o17 :: o18 :: o19 :: o20 :: o21 :: o22 :: o23 :: o24 :: o25 :: o26 :: o27 :: o28 :: r).toArray = true) (hf : Region.free md (o0 :: o1 :: o2 :: o3 :: o4 :: o5 :: o6 :: o7 :: o8 :: o9 :: o10 :: o11 :: o12 :: o13 :: o14 :: o15 :: o16 :: o17 :: o18 :: o19 :: o20 :: o21 :: o22 :: o23 :: o24 :: o25 :: o26 :: o27 :: o28 :: r).toArray listed 28 = true) (hr : (Region.ready md (o0 :: o1 :: o2 :: o3 :: o4 :: o5 :: o6 :: o7 :: o8 :: o9 :: o10 :: o11 :: o12 :: o13 :: o14 :: o15 :: o16 :: o17 :: o18 :: o19 :: o20 :: o21 :: o22 :: o23 :: o24 :: o25 :: o26 :: o27 :: o28 :: r).toArray listed).contains 28 = true)
    (hQ : ∀ c a w, Q (.panic c) (a.put o28.dst v) w → Q (.panic c) a w) (hS : S w) (hy : YieldsIf P (o0 :: o1 :: o2 :: o3 :: o4 :: o5 :: o6 :: o7 :: o8 :: o9 :: o10 :: o11 :: o12 :: o13 :: o14 :: o15 :: o16 :: o17 :: o18 :: o19 :: o20 :: o21 :: o22 :: o23 :: o24 :: o25 :: o26 :: o27 :: o28 :: r).toArray S o28 v a)
    (h : wpAnyH P md (o0 :: o1 :: o2 :: o3 :: o4 :: o5 :: o6 :: o7 :: o8 :: o9 :: o10 :: o11 :: o12 :: o13 :: o14 :: o15 :: o16 :: o17 :: o18 :: o19 :: o20 :: o21 :: o22 :: o23 :: o24 :: o25 :: o26 :: o27 :: o28 :: r).toArray Q S fuel (listed.setIfInBounds 28 true) (a.put o28.dst v) w) : wpAnyH P md (o0 :: o1 :: o2 :: o3 :: o4 :: o5 :: o6 :: o7 :: o8 :: o9 :: o10 :: o11 :: o12 :: o13 :: o14 :: o15 :: o16 :: o17 :: o18 :: o19 :: o20 :: o21 :: o22 :: o23 :: o24 :: o25 :: o26 :: o27 :: o28 :: r).toArray Q S (fuel + 1) listed a w :=
  wpAnyH_take rfl hs hf hr hQ hy hS h
theorem rd28 {P : Program} {md : Region.Mode} {Q : Exit → Act → World → Prop} {S : World → Prop} {o0 o1 o2 o3 o4 o5 o6 o7 o8 o9 o10 o11 o12 o13 o14 o15 o16 o17 o18 o19 o20 o21 o22 o23 o24 o25 o26 o27 o28 : Oper} {r : List Oper} {fuel : Nat} {listed : Array Bool} {a : Act} {w : World} {rs : List Nat}
    (h : ∀ K' : Act → World → Prop, Shut (∀ a w, S w → (S w → wpAnyH P md (o0 :: o1 :: o2 :: o3 :: o4 :: o5 :: o6 :: o7 :: o8 :: o9 :: o10 :: o11 :: o12 :: o13 :: o14 :: o15 :: o16 :: o17 :: o18 :: o19 :: o20 :: o21 :: o22 :: o23 :: o24 :: o25 :: o26 :: o27 :: o28 :: r).toArray Q S fuel (listed.setIfInBounds 28 true) a w) → K' a w) → if Region.wanted o28 (yielded (o0 :: o1 :: o2 :: o3 :: o4 :: o5 :: o6 :: o7 :: o8 :: o9 :: o10 :: o11 :: o12 :: o13 :: o14 :: o15 :: o16 :: o17 :: o18 :: o19 :: o20 :: o21 :: o22 :: o23 :: o24 :: o25 :: o26 :: o27 :: o28 :: r).toArray a.tmps) = true then Oper.wp P o28 a w K' Q else K' (a.put o28.dst undef) w)
    (hs : AllReadyH P md (o0 :: o1 :: o2 :: o3 :: o4 :: o5 :: o6 :: o7 :: o8 :: o9 :: o10 :: o11 :: o12 :: o13 :: o14 :: o15 :: o16 :: o17 :: o18 :: o19 :: o20 :: o21 :: o22 :: o23 :: o24 :: o25 :: o26 :: o27 :: o28 :: r).toArray Q S fuel listed a w rs) : AllReadyH P md (o0 :: o1 :: o2 :: o3 :: o4 :: o5 :: o6 :: o7 :: o8 :: o9 :: o10 :: o11 :: o12 :: o13 :: o14 :: o15 :: o16 :: o17 :: o18 :: o19 :: o20 :: o21 :: o22 :: o23 :: o24 :: o25 :: o26 :: o27 :: o28 :: r).toArray Q S fuel listed a w (28 :: rs) :=
  AllReadyH.cons rfl h hs
theorem tk29 {P : Program} {md : Region.Mode} {Q : Exit → Act → World → Prop} {S : World → Prop} {o0 o1 o2 o3 o4 o5 o6 o7 o8 o9 o10 o11 o12 o13 o14 o15 o16 o17 o18 o19 o20 o21 o22 o23 o24 o25 o26 o27 o28 o29 : Oper} {r : List Oper} {v : Value} {fuel : Nat} {listed : Array Bool} {a : Act} {w : World}
    (hs : Region.noSelect (o0 :: o1 :: o2 :: o3 :: o4 :: o5 :: o6 :: o7 :: o8 :: o9 :: o10 :: o11 :: o12 :: o13 :: o14 :: o15 :: o16 :: o17 :: o18 :: o19 :: o20 :: o21 :: o22 :: o23 :: o24 :: o25 :: o26 :: o27 :: o28 :: o29 :: r).toArray = true) (hf : Region.free md (o0 :: o1 :: o2 :: o3 :: o4 :: o5 :: o6 :: o7 :: o8 :: o9 :: o10 :: o11 :: o12 :: o13 :: o14 :: o15 :: o16 :: o17 :: o18 :: o19 :: o20 :: o21 :: o22 :: o23 :: o24 :: o25 :: o26 :: o27 :: o28 :: o29 :: r).toArray listed 29 = true) (hr : (Region.ready md (o0 :: o1 :: o2 :: o3 :: o4 :: o5 :: o6 :: o7 :: o8 :: o9 :: o10 :: o11 :: o12 :: o13 :: o14 :: o15 :: o16 :: o17 :: o18 :: o19 :: o20 :: o21 :: o22 :: o23 :: o24 :: o25 :: o26 :: o27 :: o28 :: o29 :: r).toArray listed).contains 29 = true)
    (hQ : ∀ c a w, Q (.panic c) (a.put o29.dst v) w → Q (.panic c) a w) (hS : S w) (hy : YieldsIf P (o0 :: o1 :: o2 :: o3 :: o4 :: o5 :: o6 :: o7 :: o8 :: o9 :: o10 :: o11 :: o12 :: o13 :: o14 :: o15 :: o16 :: o17 :: o18 :: o19 :: o20 :: o21 :: o22 :: o23 :: o24 :: o25 :: o26 :: o27 :: o28 :: o29 :: r).toArray S o29 v a)
    (h : wpAnyH P md (o0 :: o1 :: o2 :: o3 :: o4 :: o5 :: o6 :: o7 :: o8 :: o9 :: o10 :: o11 :: o12 :: o13 :: o14 :: o15 :: o16 :: o17 :: o18 :: o19 :: o20 :: o21 :: o22 :: o23 :: o24 :: o25 :: o26 :: o27 :: o28 :: o29 :: r).toArray Q S fuel (listed.setIfInBounds 29 true) (a.put o29.dst v) w) : wpAnyH P md (o0 :: o1 :: o2 :: o3 :: o4 :: o5 :: o6 :: o7 :: o8 :: o9 :: o10 :: o11 :: o12 :: o13 :: o14 :: o15 :: o16 :: o17 :: o18 :: o19 :: o20 :: o21 :: o22 :: o23 :: o24 :: o25 :: o26 :: o27 :: o28 :: o29 :: r).toArray Q S (fuel + 1) listed a w :=
  wpAnyH_take rfl hs hf hr hQ hy hS h
theorem rd29 {P : Program} {md : Region.Mode} {Q : Exit → Act → World → Prop} {S : World → Prop} {o0 o1 o2 o3 o4 o5 o6 o7 o8 o9 o10 o11 o12 o13 o14 o15 o16 o17 o18 o19 o20 o21 o22 o23 o24 o25 o26 o27 o28 o29 : Oper} {r : List Oper} {fuel : Nat} {listed : Array Bool} {a : Act} {w : World} {rs : List Nat}
    (h : ∀ K' : Act → World → Prop, Shut (∀ a w, S w → (S w → wpAnyH P md (o0 :: o1 :: o2 :: o3 :: o4 :: o5 :: o6 :: o7 :: o8 :: o9 :: o10 :: o11 :: o12 :: o13 :: o14 :: o15 :: o16 :: o17 :: o18 :: o19 :: o20 :: o21 :: o22 :: o23 :: o24 :: o25 :: o26 :: o27 :: o28 :: o29 :: r).toArray Q S fuel (listed.setIfInBounds 29 true) a w) → K' a w) → if Region.wanted o29 (yielded (o0 :: o1 :: o2 :: o3 :: o4 :: o5 :: o6 :: o7 :: o8 :: o9 :: o10 :: o11 :: o12 :: o13 :: o14 :: o15 :: o16 :: o17 :: o18 :: o19 :: o20 :: o21 :: o22 :: o23 :: o24 :: o25 :: o26 :: o27 :: o28 :: o29 :: r).toArray a.tmps) = true then Oper.wp P o29 a w K' Q else K' (a.put o29.dst undef) w)
    (hs : AllReadyH P md (o0 :: o1 :: o2 :: o3 :: o4 :: o5 :: o6 :: o7 :: o8 :: o9 :: o10 :: o11 :: o12 :: o13 :: o14 :: o15 :: o16 :: o17 :: o18 :: o19 :: o20 :: o21 :: o22 :: o23 :: o24 :: o25 :: o26 :: o27 :: o28 :: o29 :: r).toArray Q S fuel listed a w rs) : AllReadyH P md (o0 :: o1 :: o2 :: o3 :: o4 :: o5 :: o6 :: o7 :: o8 :: o9 :: o10 :: o11 :: o12 :: o13 :: o14 :: o15 :: o16 :: o17 :: o18 :: o19 :: o20 :: o21 :: o22 :: o23 :: o24 :: o25 :: o26 :: o27 :: o28 :: o29 :: r).toArray Q S fuel listed a w (29 :: rs) :=
  AllReadyH.cons rfl h hs
theorem tk30 {P : Program} {md : Region.Mode} {Q : Exit → Act → World → Prop} {S : World → Prop} {o0 o1 o2 o3 o4 o5 o6 o7 o8 o9 o10 o11 o12 o13 o14 o15 o16 o17 o18 o19 o20 o21 o22 o23 o24 o25 o26 o27 o28 o29 o30 : Oper} {r : List Oper} {v : Value} {fuel : Nat} {listed : Array Bool} {a : Act} {w : World}
    (hs : Region.noSelect (o0 :: o1 :: o2 :: o3 :: o4 :: o5 :: o6 :: o7 :: o8 :: o9 :: o10 :: o11 :: o12 :: o13 :: o14 :: o15 :: o16 :: o17 :: o18 :: o19 :: o20 :: o21 :: o22 :: o23 :: o24 :: o25 :: o26 :: o27 :: o28 :: o29 :: o30 :: r).toArray = true) (hf : Region.free md (o0 :: o1 :: o2 :: o3 :: o4 :: o5 :: o6 :: o7 :: o8 :: o9 :: o10 :: o11 :: o12 :: o13 :: o14 :: o15 :: o16 :: o17 :: o18 :: o19 :: o20 :: o21 :: o22 :: o23 :: o24 :: o25 :: o26 :: o27 :: o28 :: o29 :: o30 :: r).toArray listed 30 = true) (hr : (Region.ready md (o0 :: o1 :: o2 :: o3 :: o4 :: o5 :: o6 :: o7 :: o8 :: o9 :: o10 :: o11 :: o12 :: o13 :: o14 :: o15 :: o16 :: o17 :: o18 :: o19 :: o20 :: o21 :: o22 :: o23 :: o24 :: o25 :: o26 :: o27 :: o28 :: o29 :: o30 :: r).toArray listed).contains 30 = true)
    (hQ : ∀ c a w, Q (.panic c) (a.put o30.dst v) w → Q (.panic c) a w) (hS : S w) (hy : YieldsIf P (o0 :: o1 :: o2 :: o3 :: o4 :: o5 :: o6 :: o7 :: o8 :: o9 :: o10 :: o11 :: o12 :: o13 :: o14 :: o15 :: o16 :: o17 :: o18 :: o19 :: o20 :: o21 :: o22 :: o23 :: o24 :: o25 :: o26 :: o27 :: o28 :: o29 :: o30 :: r).toArray S o30 v a)
    (h : wpAnyH P md (o0 :: o1 :: o2 :: o3 :: o4 :: o5 :: o6 :: o7 :: o8 :: o9 :: o10 :: o11 :: o12 :: o13 :: o14 :: o15 :: o16 :: o17 :: o18 :: o19 :: o20 :: o21 :: o22 :: o23 :: o24 :: o25 :: o26 :: o27 :: o28 :: o29 :: o30 :: r).toArray Q S fuel (listed.setIfInBounds 30 true) (a.put o30.dst v) w) : wpAnyH P md (o0 :: o1 :: o2 :: o3 :: o4 :: o5 :: o6 :: o7 :: o8 :: o9 :: o10 :: o11 :: o12 :: o13 :: o14 :: o15 :: o16 :: o17 :: o18 :: o19 :: o20 :: o21 :: o22 :: o23 :: o24 :: o25 :: o26 :: o27 :: o28 :: o29 :: o30 :: r).toArray Q S (fuel + 1) listed a w :=
  wpAnyH_take rfl hs hf hr hQ hy hS h
theorem rd30 {P : Program} {md : Region.Mode} {Q : Exit → Act → World → Prop} {S : World → Prop} {o0 o1 o2 o3 o4 o5 o6 o7 o8 o9 o10 o11 o12 o13 o14 o15 o16 o17 o18 o19 o20 o21 o22 o23 o24 o25 o26 o27 o28 o29 o30 : Oper} {r : List Oper} {fuel : Nat} {listed : Array Bool} {a : Act} {w : World} {rs : List Nat}
    (h : ∀ K' : Act → World → Prop, Shut (∀ a w, S w → (S w → wpAnyH P md (o0 :: o1 :: o2 :: o3 :: o4 :: o5 :: o6 :: o7 :: o8 :: o9 :: o10 :: o11 :: o12 :: o13 :: o14 :: o15 :: o16 :: o17 :: o18 :: o19 :: o20 :: o21 :: o22 :: o23 :: o24 :: o25 :: o26 :: o27 :: o28 :: o29 :: o30 :: r).toArray Q S fuel (listed.setIfInBounds 30 true) a w) → K' a w) → if Region.wanted o30 (yielded (o0 :: o1 :: o2 :: o3 :: o4 :: o5 :: o6 :: o7 :: o8 :: o9 :: o10 :: o11 :: o12 :: o13 :: o14 :: o15 :: o16 :: o17 :: o18 :: o19 :: o20 :: o21 :: o22 :: o23 :: o24 :: o25 :: o26 :: o27 :: o28 :: o29 :: o30 :: r).toArray a.tmps) = true then Oper.wp P o30 a w K' Q else K' (a.put o30.dst undef) w)
    (hs : AllReadyH P md (o0 :: o1 :: o2 :: o3 :: o4 :: o5 :: o6 :: o7 :: o8 :: o9 :: o10 :: o11 :: o12 :: o13 :: o14 :: o15 :: o16 :: o17 :: o18 :: o19 :: o20 :: o21 :: o22 :: o23 :: o24 :: o25 :: o26 :: o27 :: o28 :: o29 :: o30 :: r).toArray Q S fuel listed a w rs) : AllReadyH P md (o0 :: o1 :: o2 :: o3 :: o4 :: o5 :: o6 :: o7 :: o8 :: o9 :: o10 :: o11 :: o12 :: o13 :: o14 :: o15 :: o16 :: o17 :: o18 :: o19 :: o20 :: o21 :: o22 :: o23 :: o24 :: o25 :: o26 :: o27 :: o28 :: o29 :: o30 :: r).toArray Q S fuel listed a w (30 :: rs) :=
  AllReadyH.cons rfl h hs
theorem tk31 {P : Program} {md : Region.Mode} {Q : Exit → Act → World → Prop} {S : World → Prop} {o0 o1 o2 o3 o4 o5 o6 o7 o8 o9 o10 o11 o12 o13 o14 o15 o16 o17 o18 o19 o20 o21 o22 o23 o24 o25 o26 o27 o28 o29 o30 o31 : Oper} {r : List Oper} {v : Value} {fuel : Nat} {listed : Array Bool} {a : Act} {w : World}
    (hs : Region.noSelect (o0 :: o1 :: o2 :: o3 :: o4 :: o5 :: o6 :: o7 :: o8 :: o9 :: o10 :: o11 :: o12 :: o13 :: o14 :: o15 :: o16 :: o17 :: o18 :: o19 :: o20 :: o21 :: o22 :: o23 :: o24 :: o25 :: o26 :: o27 :: o28 :: o29 :: o30 :: o31 :: r).toArray = true) (hf : Region.free md (o0 :: o1 :: o2 :: o3 :: o4 :: o5 :: o6 :: o7 :: o8 :: o9 :: o10 :: o11 :: o12 :: o13 :: o14 :: o15 :: o16 :: o17 :: o18 :: o19 :: o20 :: o21 :: o22 :: o23 :: o24 :: o25 :: o26 :: o27 :: o28 :: o29 :: o30 :: o31 :: r).toArray listed 31 = true) (hr : (Region.ready md (o0 :: o1 :: o2 :: o3 :: o4 :: o5 :: o6 :: o7 :: o8 :: o9 :: o10 :: o11 :: o12 :: o13 :: o14 :: o15 :: o16 :: o17 :: o18 :: o19 :: o20 :: o21 :: o22 :: o23 :: o24 :: o25 :: o26 :: o27 :: o28 :: o29 :: o30 :: o31 :: r).toArray listed).contains 31 = true)
    (hQ : ∀ c a w, Q (.panic c) (a.put o31.dst v) w → Q (.panic c) a w) (hS : S w) (hy : YieldsIf P (o0 :: o1 :: o2 :: o3 :: o4 :: o5 :: o6 :: o7 :: o8 :: o9 :: o10 :: o11 :: o12 :: o13 :: o14 :: o15 :: o16 :: o17 :: o18 :: o19 :: o20 :: o21 :: o22 :: o23 :: o24 :: o25 :: o26 :: o27 :: o28 :: o29 :: o30 :: o31 :: r).toArray S o31 v a)
    (h : wpAnyH P md (o0 :: o1 :: o2 :: o3 :: o4 :: o5 :: o6 :: o7 :: o8 :: o9 :: o10 :: o11 :: o12 :: o13 :: o14 :: o15 :: o16 :: o17 :: o18 :: o19 :: o20 :: o21 :: o22 :: o23 :: o24 :: o25 :: o26 :: o27 :: o28 :: o29 :: o30 :: o31 :: r).toArray Q S fuel (listed.setIfInBounds 31 true) (a.put o31.dst v) w) : wpAnyH P md (o0 :: o1 :: o2 :: o3 :: o4 :: o5 :: o6 :: o7 :: o8 :: o9 :: o10 :: o11 :: o12 :: o13 :: o14 :: o15 :: o16 :: o17 :: o18 :: o19 :: o20 :: o21 :: o22 :: o23 :: o24 :: o25 :: o26 :: o27 :: o28 :: o29 :: o30 :: o31 :: r).toArray Q S (fuel + 1) listed a w :=
  wpAnyH_take rfl hs hf hr hQ hy hS h
theorem rd31 {P : Program} {md : Region.Mode} {Q : Exit → Act → World → Prop} {S : World → Prop} {o0 o1 o2 o3 o4 o5 o6 o7 o8 o9 o10 o11 o12 o13 o14 o15 o16 o17 o18 o19 o20 o21 o22 o23 o24 o25 o26 o27 o28 o29 o30 o31 : Oper} {r : List Oper} {fuel : Nat} {listed : Array Bool} {a : Act} {w : World} {rs : List Nat}
    (h : ∀ K' : Act → World → Prop, Shut (∀ a w, S w → (S w → wpAnyH P md (o0 :: o1 :: o2 :: o3 :: o4 :: o5 :: o6 :: o7 :: o8 :: o9 :: o10 :: o11 :: o12 :: o13 :: o14 :: o15 :: o16 :: o17 :: o18 :: o19 :: o20 :: o21 :: o22 :: o23 :: o24 :: o25 :: o26 :: o27 :: o28 :: o29 :: o30 :: o31 :: r).toArray Q S fuel (listed.setIfInBounds 31 true) a w) → K' a w) → if Region.wanted o31 (yielded (o0 :: o1 :: o2 :: o3 :: o4 :: o5 :: o6 :: o7 :: o8 :: o9 :: o10 :: o11 :: o12 :: o13 :: o14 :: o15 :: o16 :: o17 :: o18 :: o19 :: o20 :: o21 :: o22 :: o23 :: o24 :: o25 :: o26 :: o27 :: o28 :: o29 :: o30 :: o31 :: r).toArray a.tmps) = true then Oper.wp P o31 a w K' Q else K' (a.put o31.dst undef) w)
    (hs : AllReadyH P md (o0 :: o1 :: o2 :: o3 :: o4 :: o5 :: o6 :: o7 :: o8 :: o9 :: o10 :: o11 :: o12 :: o13 :: o14 :: o15 :: o16 :: o17 :: o18 :: o19 :: o20 :: o21 :: o22 :: o23 :: o24 :: o25 :: o26 :: o27 :: o28 :: o29 :: o30 :: o31 :: r).toArray Q S fuel listed a w rs) : AllReadyH P md (o0 :: o1 :: o2 :: o3 :: o4 :: o5 :: o6 :: o7 :: o8 :: o9 :: o10 :: o11 :: o12 :: o13 :: o14 :: o15 :: o16 :: o17 :: o18 :: o19 :: o20 :: o21 :: o22 :: o23 :: o24 :: o25 :: o26 :: o27 :: o28 :: o29 :: o30 :: o31 :: r).toArray Q S fuel listed a w (31 :: rs) :=
  AllReadyH.cons rfl h hs
theorem tk32 {P : Program} {md : Region.Mode} {Q : Exit → Act → World → Prop} {S : World → Prop} {o0 o1 o2 o3 o4 o5 o6 o7 o8 o9 o10 o11 o12 o13 o14 o15 o16 o17 o18 o19 o20 o21 o22 o23 o24 o25 o26 o27 o28 o29 o30 o31 o32 : Oper} {r : List Oper} {v : Value} {fuel : Nat} {listed : Array Bool} {a : Act} {w : World}
    (hs : Region.noSelect (o0 :: o1 :: o2 :: o3 :: o4 :: o5 :: o6 :: o7 :: o8 :: o9 :: o10 :: o11 :: o12 :: o13 :: o14 :: o15 :: o16 :: o17 :: o18 :: o19 :: o20 :: o21 :: o22 :: o23 :: o24 :: o25 :: o26 :: o27 :: o28 :: o29 :: o30 :: o31 :: o32 :: r).toArray = true) (hf : Region.free md (o0 :: o1 :: o2 :: o3 :: o4 :: o5 :: o6 :: o7 :: o8 :: o9 :: o10 :: o11 :: o12 :: o13 :: o14 :: o15 :: o16 :: o17 :: o18 :: o19 :: o20 :: o21 :: o22 :: o23 :: o24 :: o25 :: o26 :: o27 :: o28 :: o29 :: o30 :: o31 :: o32 :: r).toArray listed 32 = true) (hr : (Region.ready md (o0 :: o1 :: o2 :: o3 :: o4 :: o5 :: o6 :: o7 :: o8 :: o9 :: o10 :: o11 :: o12 :: o13 :: o14 :: o15 :: o16 :: o17 :: o18 :: o19 :: o20 :: o21 :: o22 :: o23 :: o24 :: o25 :: o26 :: o27 :: o28 :: o29 :: o30 :: o31 :: o32 :: r).toArray listed).contains 32 = true)
    (hQ : ∀ c a w, Q (.panic c) (a.put o32.dst v) w → Q (.panic c) a w) (hS : S w) (hy : YieldsIf P (o0 :: o1 :: o2 :: o3 :: o4 :: o5 :: o6 :: o7 :: o8 :: o9 :: o10 :: o11 :: o12 :: o13 :: o14 :: o15 :: o16 :: o17 :: o18 :: o19 :: o20 :: o21 :: o22 :: o23 :: o24 :: o25 :: o26 :: o27 :: o28 :: o29 :: o30 :: o31 :: o32 :: r).toArray S o32 v a)
    (h : wpAnyH P md (o0 :: o1 :: o2 :: o3 :: o4 :: o5 :: o6 :: o7 :: o8 :: o9 :: o10 :: o11 :: o12 :: o13 :: o14 :: o15 :: o16 :: o17 :: o18 :: o19 :: o20 :: o21 :: o22 :: o23 :: o24 :: o25 :: o26 :: o27 :: o28 :: o29 :: o30 :: o31 :: o32 :: r).toArray Q S fuel (listed.setIfInBounds 32 true) (a.put o32.dst v) w) : wpAnyH P md (o0 :: o1 :: o2 :: o3 :: o4 :: o5 :: o6 :: o7 :: o8 :: o9 :: o10 :: o11 :: o12 :: o13 :: o14 :: o15 :: o16 :: o17 :: o18 :: o19 :: o20 :: o21 :: o22 :: o23 :: o24 :: o25 :: o26 :: o27 :: o28 :: o29 :: o30 :: o31 :: o32 :: r).toArray Q S (fuel + 1) listed a w :=
  wpAnyH_take rfl hs hf hr hQ hy hS h
theorem rd32 {P : Program} {md : Region.Mode} {Q : Exit → Act → World → Prop} {S : World → Prop} {o0 o1 o2 o3 o4 o5 o6 o7 o8 o9 o10 o11 o12 o13 o14 o15 o16 o17 o18 o19 o20 o21 o22 o23 o24 o25 o26 o27 o28 o29 o30 o31 o32 : Oper} {r : List Oper} {fuel : Nat} {listed : Array Bool} {a : Act} {w : World} {rs : List Nat}
    (h : ∀ K' : Act → World → Prop, Shut (∀ a w, S w → (S w → wpAnyH P md (o0 :: o1 :: o2 :: o3 :: o4 :: o5 :: o6 :: o7 :: o8 :: o9 :: o10 :: o11 :: o12 :: o13 :: o14 :: o15 :: o16 :: o17 :: o18 :: o19 :: o20 :: o21 :: o22 :: o23 :: o24 :: o25 :: o26 :: o27 :: o28 :: o29 :: o30 :: o31 :: o32 :: r).toArray Q S fuel (listed.setIfInBounds 32 true) a w) → K' a w) → if Region.wanted o32 (yielded (o0 :: o1 :: o2 :: o3 :: o4 :: o5 :: o6 :: o7 :: o8 :: o9 :: o10 :: o11 :: o12 :: o13 :: o14 :: o15 :: o16 :: o17 :: o18 :: o19 :: o20 :: o21 :: o22 :: o23 :: o24 :: o25 :: o26 :: o27 :: o28 :: o29 :: o30 :: o31 :: o32 :: r).toArray a.tmps) = true then Oper.wp P o32 a w K' Q else K' (a.put o32.dst undef) w)
    (hs : AllReadyH P md (o0 :: o1 :: o2 :: o3 :: o4 :: o5 :: o6 :: o7 :: o8 :: o9 :: o10 :: o11 :: o12 :: o13 :: o14 :: o15 :: o16 :: o17 :: o18 :: o19 :: o20 :: o21 :: o22 :: o23 :: o24 :: o25 :: o26 :: o27 :: o28 :: o29 :: o30 :: o31 :: o32 :: r).toArray Q S fuel listed a w rs) : AllReadyH P md (o0 :: o1 :: o2 :: o3 :: o4 :: o5 :: o6 :: o7 :: o8 :: o9 :: o10 :: o11 :: o12 :: o13 :: o14 :: o15 :: o16 :: o17 :: o18 :: o19 :: o20 :: o21 :: o22 :: o23 :: o24 :: o25 :: o26 :: o27 :: o28 :: o29 :: o30 :: o31 :: o32 :: r).toArray Q S fuel listed a w (32 :: rs) :=
  AllReadyH.cons rfl h hs
theorem tk33 {P : Program} {md : Region.Mode} {Q : Exit → Act → World → Prop} {S : World → Prop} {o0 o1 o2 o3 o4 o5 o6 o7 o8 o9 o10 o11 o12 o13 o14 o15 o16 o17 o18 o19 o20 o21 o22 o23 o24 o25 o26 o27 o28 o29 o30 o31 o32 o33 : Oper} {r : List Oper} {v : Value} {fuel : Nat} {listed : Array Bool} {a : Act} {w : World}
    (hs : Region.noSelect (o0 :: o1 :: o2 :: o3 :: o4 :: o5 :: o6 :: o7 :: o8 :: o9 :: o10 :: o11 :: o12 :: o13 :: o14 :: o15 :: o16 :: o17 :: o18 :: o19 :: o20 :: o21 :: o22 :: o23 :: o24 :: o25 :: o26 :: o27 :: o28 :: o29 :: o30 :: o31 :: o32 :: o33 :: r).toArray = true) (hf : Region.free md (o0 :: o1 :: o2 :: o3 :: o4 :: o5 :: o6 :: o7 :: o8 :: o9 :: o10 :: o11 :: o12 :: o13 :: o14 :: o15 :: o16 :: o17 :: o18 :: o19 :: o20 :: o21 :: o22 :: o23 :: o24 :: o25 :: o26 :: o27 :: o28 :: o29 :: o30 :: o31 :: o32 :: o33 :: r).toArray listed 33 = true) (hr : (Region.ready md (o0 :: o1 :: o2 :: o3 :: o4 :: o5 :: o6 :: o7 :: o8 :: o9 :: o10 :: o11 :: o12 :: o13 :: o14 :: o15 :: o16 :: o17 :: o18 :: o19 :: o20 :: o21 :: o22 :: o23 :: o24 :: o25 :: o26 :: o27 :: o28 :: o29 :: o30 :: o31 :: o32 :: o33 :: r).toArray listed).contains 33 = true)
    (hQ : ∀ c a w, Q (.panic c) (a.put o33.dst v) w → Q (.panic c) a w) (hS : S w) (hy : YieldsIf P (o0 :: o1 :: o2 :: o3 :: o4 :: o5 :: o6 :: o7 :: o8 :: o9 :: o10 :: o11 :: o12 :: o13 :: o14 :: o15 :: o16 :: o17 :: o18 :: o19 :: o20 :: o21 :: o22 :: o23 :: o24 :: o25 :: o26 :: o27 :: o28 :: o29 :: o30 :: o31 :: o32 :: o33 :: r).toArray S o33 v a)
    (h : wpAnyH P md (o0 :: o1 :: o2 :: o3 :: o4 :: o5 :: o6 :: o7 :: o8 :: o9 :: o10 :: o11 :: o12 :: o13 :: o14 :: o15 :: o16 :: o17 :: o18 :: o19 :: o20 :: o21 :: o22 :: o23 :: o24 :: o25 :: o26 :: o27 :: o28 :: o29 :: o30 :: o31 :: o32 :: o33 :: r).toArray Q S fuel (listed.setIfInBounds 33 true) (a.put o33.dst v) w) : wpAnyH P md (o0 :: o1 :: o2 :: o3 :: o4 :: o5 :: o6 :: o7 :: o8 :: o9 :: o10 :: o11 :: o12 :: o13 :: o14 :: o15 :: o16 :: o17 :: o18 :: o19 :: o20 :: o21 :: o22 :: o23 :: o24 :: o25 :: o26 :: o27 :: o28 :: o29 :: o30 :: o31 :: o32 :: o33 :: r).toArray Q S (fuel + 1) listed a w :=
  wpAnyH_take rfl hs hf hr hQ hy hS h
theorem rd33 {P : Program} {md : Region.Mode} {Q : Exit → Act → World → Prop} {S : World → Prop} {o0 o1 o2 o3 o4 o5 o6 o7 o8 o9 o10 o11 o12 o13 o14 o15 o16 o17 o18 o19 o20 o21 o22 o23 o24 o25 o26 o27 o28 o29 o30 o31 o32 o33 : Oper} {r : List Oper} {fuel : Nat} {listed : Array Bool} {a : Act} {w : World} {rs : List Nat}
    (h : ∀ K' : Act → World → Prop, Shut (∀ a w, S w → (S w → wpAnyH P md (o0 :: o1 :: o2 :: o3 :: o4 :: o5 :: o6 :: o7 :: o8 :: o9 :: o10 :: o11 :: o12 :: o13 :: o14 :: o15 :: o16 :: o17 :: o18 :: o19 :: o20 :: o21 :: o22 :: o23 :: o24 :: o25 :: o26 :: o27 :: o28 :: o29 :: o30 :: o31 :: o32 :: o33 :: r).toArray Q S fuel (listed.setIfInBounds 33 true) a w) → K' a w) → if Region.wanted o33 (yielded (o0 :: o1 :: o2 :: o3 :: o4 :: o5 :: o6 :: o7 :: o8 :: o9 :: o10 :: o11 :: o12 :: o13 :: o14 :: o15 :: o16 :: o17 :: o18 :: o19 :: o20 :: o21 :: o22 :: o23 :: o24 :: o25 :: o26 :: o27 :: o28 :: o29 :: o30 :: o31 :: o32 :: o33 :: r).toArray a.tmps) = true then Oper.wp P o33 a w K' Q else K' (a.put o33.dst undef) w)
    (hs : AllReadyH P md (o0 :: o1 :: o2 :: o3 :: o4 :: o5 :: o6 :: o7 :: o8 :: o9 :: o10 :: o11 :: o12 :: o13 :: o14 :: o15 :: o16 :: o17 :: o18 :: o19 :: o20 :: o21 :: o22 :: o23 :: o24 :: o25 :: o26 :: o27 :: o28 :: o29 :: o30 :: o31 :: o32 :: o33 :: r).toArray Q S fuel listed a w rs) : AllReadyH P md (o0 :: o1 :: o2 :: o3 :: o4 :: o5 :: o6 :: o7 :: o8 :: o9 :: o10 :: o11 :: o12 :: o13 :: o14 :: o15 :: o16 :: o17 :: o18 :: o19 :: o20 :: o21 :: o22 :: o23 :: o24 :: o25 :: o26 :: o27 :: o28 :: o29 :: o30 :: o31 :: o32 :: o33 :: r).toArray Q S fuel listed a w (33 :: rs) :=
  AllReadyH.cons rfl h hs
theorem tk34 {P : Program} {md : Region.Mode} {Q : Exit → Act → World → Prop} {S : World → Prop} {o0 o1 o2 o3 o4 o5 o6 o7 o8 o9 o10 o11 o12 o13 o14 o15 o16 o17 o18 o19 o20 o21 o22 o23 o24 o25 o26 o27 o28 o29 o30 o31 o32 o33 o34 : Oper} {r : List Oper} {v : Value} {fuel : Nat} {listed : Array Bool} {a : Act} {w : World}
    (hs : Region.noSelect (o0 :: o1 :: o2 :: o3 :: o4 :: o5 :: o6 :: o7 :: o8 :: o9 :: o10 :: o11 :: o12 :: o13 :: o14 :: o15 :: o16 :: o17 :: o18 :: o19 :: o20 :: o21 :: o22 :: o23 :: o24 :: o25 :: o26 :: o27 :: o28 :: o29 :: o30 :: o31 :: o32 :: o33 :: o34 :: r).toArray = true) (hf : Region.free md (o0 :: o1 :: o2 :: o3 :: o4 :: o5 :: o6 :: o7 :: o8 :: o9 :: o10 :: o11 :: o12 :: o13 :: o14 :: o15 :: o16 :: o17 :: o18 :: o19 :: o20 :: o21 :: o22 :: o23 :: o24 :: o25 :: o26 :: o27 :: o28 :: o29 :: o30 :: o31 :: o32 :: o33 :: o34 :: r).toArray listed 34 = true) (hr : (Region.ready md (o0 :: o1 :: o2 :: o3 :: o4 :: o5 :: o6 :: o7 :: o8 :: o9 :: o10 :: o11 :: o12 :: o13 :: o14 :: o15 :: o16 :: o17 :: o18 :: o19 :: o20 :: o21 :: o22 :: o23 :: o24 :: o25 :: o26 :: o27 :: o28 :: o29 :: o30 :: o31 :: o32 :: o33 :: o34 :: r).toArray listed).contains 34 = true)
    (hQ : ∀ c a w, Q (.panic c) (a.put o34.dst v) w → Q (.panic c) a w) (hS : S w) (hy : YieldsIf P (o0 :: o1 :: o2 :: o3 :: o4 :: o5 :: o6 :: o7 :: o8 :: o9 :: o10 :: o11 :: o12 :: o13 :: o14 :: o15 :: o16 :: o17 :: o18 :: o19 :: o20 :: o21 :: o22 :: o23 :: o24 :: o25 :: o26 :: o27 :: o28 :: o29 :: o30 :: o31 :: o32 :: o33 :: o34 :: r).toArray S o34 v a)
    (h : wpAnyH P md (o0 :: o1 :: o2 :: o3 :: o4 :: o5 :: o6 :: o7 :: o8 :: o9 :: o10 :: o11 :: o12 :: o13 :: o14 :: o15 :: o16 :: o17 :: o18 :: o19 :: o20 :: o21 :: o22 :: o23 :: o24 :: o25 :: o26 :: o27 :: o28 :: o29 :: o30 :: o31 :: o32 :: o33 :: o34 :: r).toArray Q S fuel (listed.setIfInBounds 34 true) (a.put o34.dst v) w) : wpAnyH P md (o0 :: o1 :: o2 :: o3 :: o4 :: o5 :: o6 :: o7 :: o8 :: o9 :: o10 :: o11 :: o12 :: o13 :: o14 :: o15 :: o16 :: o17 :: o18 :: o19 :: o20 :: o21 :: o22 :: o23 :: o24 :: o25 :: o26 :: o27 :: o28 :: o29 :: o30 :: o31 :: o32 :: o33 :: o34 :: r).toArray Q S (fuel + 1) listed a w :=
  wpAnyH_take rfl hs hf hr hQ hy hS h
theorem rd34 {P : Program} {md : Region.Mode} {Q : Exit → Act → World → Prop} {S : World → Prop} {o0 o1 o2 o3 o4 o5 o6 o7 o8 o9 o10 o11 o12 o13 o14 o15 o16 o17 o18 o19 o20 o21 o22 o23 o24 o25 o26 o27 o28 o29 o30 o31 o32 o33 o34 : Oper} {r : List Oper} {fuel : Nat} {listed : Array Bool} {a : Act} {w : World} {rs : List Nat}
    (h : ∀ K' : Act → World → Prop, Shut (∀ a w, S w → (S w → wpAnyH P md (o0 :: o1 :: o2 :: o3 :: o4 :: o5 :: o6 :: o7 :: o8 :: o9 :: o10 :: o11 :: o12 :: o13 :: o14 :: o15 :: o16 :: o17 :: o18 :: o19 :: o20 :: o21 :: o22 :: o23 :: o24 :: o25 :: o26 :: o27 :: o28 :: o29 :: o30 :: o31 :: o32 :: o33 :: o34 :: r).toArray Q S fuel (listed.setIfInBounds 34 true) a w) → K' a w) → if Region.wanted o34 (yielded (o0 :: o1 :: o2 :: o3 :: o4 :: o5 :: o6 :: o7 :: o8 :: o9 :: o10 :: o11 :: o12 :: o13 :: o14 :: o15 :: o16 :: o17 :: o18 :: o19 :: o20 :: o21 :: o22 :: o23 :: o24 :: o25 :: o26 :: o27 :: o28 :: o29 :: o30 :: o31 :: o32 :: o33 :: o34 :: r).toArray a.tmps) = true then Oper.wp P o34 a w K' Q else K' (a.put o34.dst undef) w)
    (hs : AllReadyH P md (o0 :: o1 :: o2 :: o3 :: o4 :: o5 :: o6 :: o7 :: o8 :: o9 :: o10 :: o11 :: o12 :: o13 :: o14 :: o15 :: o16 :: o17 :: o18 :: o19 :: o20 :: o21 :: o22 :: o23 :: o24 :: o25 :: o26 :: o27 :: o28 :: o29 :: o30 :: o31 :: o32 :: o33 :: o34 :: r).toArray Q S fuel listed a w rs) : AllReadyH P md (o0 :: o1 :: o2 :: o3 :: o4 :: o5 :: o6 :: o7 :: o8 :: o9 :: o10 :: o11 :: o12 :: o13 :: o14 :: o15 :: o16 :: o17 :: o18 :: o19 :: o20 :: o21 :: o22 :: o23 :: o24 :: o25 :: o26 :: o27 :: o28 :: o29 :: o30 :: o31 :: o32 :: o33 :: o34 :: r).toArray Q S fuel listed a w (34 :: rs) :=
  AllReadyH.cons rfl h hs
theorem tk35 {P : Program} {md : Region.Mode} {Q : Exit → Act → World → Prop} {S : World → Prop} {o0 o1 o2 o3 o4 o5 o6 o7 o8 o9 o10 o11 o12 o13 o14 o15 o16 o17 o18 o19 o20 o21 o22 o23 o24 o25 o26 o27 o28 o29 o30 o31 o32 o33 o34 o35 : Oper} {r : List Oper} {v : Value} {fuel : Nat} {listed : Array Bool} {a : Act} {w : World}
    (hs : Region.noSelect (o0 :: o1 :: o2 :: o3 :: o4 :: o5 :: o6 :: o7 :: o8 :: o9 :: o10 :: o11 :: o12 :: o13 :: o14 :: o15 :: o16 :: o17 :: o18 :: o19 :: o20 :: o21 :: o22 :: o23 :: o24 :: o25 :: o26 :: o27 :: o28 :: o29 :: o30 :: o31 :: o32 :: o33 :: o34 :: o35 :: r).toArray = true) (hf : Region.free md (o0 :: o1 :: o2 :: o3 :: o4 :: o5 :: o6 :: o7 :: o8 :: o9 :: o10 :: o11 :: o12 :: o13 :: o14 :: o15 :: o16 :: o17 :: o18 :: o19 :: o20 :: o21 :: o22 :: o23 :: o24 :: o25 :: o26 :: o27 :: o28 :: o29 :: o30 :: o31 :: o32 :: o33 :: o34 :: o35 :: r).toArray listed 35 = true) (hr : (Region.ready md (o0 :: o1 :: o2 :: o3 :: o4 :: o5 :: o6 :: o7 :: o8 :: o9 :: o10 :: o11 :: o12 :: o13 :: o14 :: o15 :: o16 :: o17 :: o18 :: o19 :: o20 :: o21 :: o22 :: o23 :: o24 :: o25 :: o26 :: o27 :: o28 :: o29 :: o30 :: o31 :: o32 :: o33 :: o34 :: o35 :: r).toArray listed).contains 35 = true)
    (hQ : ∀ c a w, Q (.panic c) (a.put o35.dst v) w → Q (.panic c) a w) (hS : S w) (hy : YieldsIf P (o0 :: o1 :: o2 :: o3 :: o4 :: o5 :: o6 :: o7 :: o8 :: o9 :: o10 :: o11 :: o12 :: o13 :: o14 :: o15 :: o16 :: o17 :: o18 :: o19 :: o20 :: o21 :: o22 :: o23 :: o24 :: o25 :: o26 :: o27 :: o28 :: o29 :: o30 :: o31 :: o32 :: o33 :: o34 :: o35 :: r).toArray S o35 v a)
    (h : wpAnyH P md (o0 :: o1 :: o2 :: o3 :: o4 :: o5 :: o6 :: o7 :: o8 :: o9 :: o10 :: o11 :: o12 :: o13 :: o14 :: o15 :: o16 :: o17 :: o18 :: o19 :: o20 :: o21 :: o22 :: o23 :: o24 :: o25 :: o26 :: o27 :: o28 :: o29 :: o30 :: o31 :: o32 :: o33 :: o34 :: o35 :: r).toArray Q S fuel (listed.setIfInBounds 35 true) (a.put o35.dst v) w) : wpAnyH P md (o0 :: o1 :: o2 :: o3 :: o4 :: o5 :: o6 :: o7 :: o8 :: o9 :: o10 :: o11 :: o12 :: o13 :: o14 :: o15 :: o16 :: o17 :: o18 :: o19 :: o20 :: o21 :: o22 :: o23 :: o24 :: o25 :: o26 :: o27 :: o28 :: o29 :: o30 :: o31 :: o32 :: o33 :: o34 :: o35 :: r).toArray Q S (fuel + 1) listed a w :=
  wpAnyH_take rfl hs hf hr hQ hy hS h
theorem rd35 {P : Program} {md : Region.Mode} {Q : Exit → Act → World → Prop} {S : World → Prop} {o0 o1 o2 o3 o4 o5 o6 o7 o8 o9 o10 o11 o12 o13 o14 o15 o16 o17 o18 o19 o20 o21 o22 o23 o24 o25 o26 o27 o28 o29 o30 o31 o32 o33 o34 o35 : Oper} {r : List Oper} {fuel : Nat} {listed : Array Bool} {a : Act} {w : World} {rs : List Nat}
    (h : ∀ K' : Act → World → Prop, Shut (∀ a w, S w → (S w → wpAnyH P md (o0 :: o1 :: o2 :: o3 :: o4 :: o5 :: o6 :: o7 :: o8 :: o9 :: o10 :: o11 :: o12 :: o13 :: o14 :: o15 :: o16 :: o17 :: o18 :: o19 :: o20 :: o21 :: o22 :: o23 :: o24 :: o25 :: o26 :: o27 :: o28 :: o29 :: o30 :: o31 :: o32 :: o33 :: o34 :: o35 :: r).toArray Q S fuel (listed.setIfInBounds 35 true) a w) → K' a w) → if Region.wanted o35 (yielded (o0 :: o1 :: o2 :: o3 :: o4 :: o5 :: o6 :: o7 :: o8 :: o9 :: o10 :: o11 :: o12 :: o13 :: o14 :: o15 :: o16 :: o17 :: o18 :: o19 :: o20 :: o21 :: o22 :: o23 :: o24 :: o25 :: o26 :: o27 :: o28 :: o29 :: o30 :: o31 :: o32 :: o33 :: o34 :: o35 :: r).toArray a.tmps) = true then Oper.wp P o35 a w K' Q else K' (a.put o35.dst undef) w)
    (hs : AllReadyH P md (o0 :: o1 :: o2 :: o3 :: o4 :: o5 :: o6 :: o7 :: o8 :: o9 :: o10 :: o11 :: o12 :: o13 :: o14 :: o15 :: o16 :: o17 :: o18 :: o19 :: o20 :: o21 :: o22 :: o23 :: o24 :: o25 :: o26 :: o27 :: o28 :: o29 :: o30 :: o31 :: o32 :: o33 :: o34 :: o35 :: r).toArray Q S fuel listed a w rs) : AllReadyH P md (o0 :: o1 :: o2 :: o3 :: o4 :: o5 :: o6 :: o7 :: o8 :: o9 :: o10 :: o11 :: o12 :: o13 :: o14 :: o15 :: o16 :: o17 :: o18 :: o19 :: o20 :: o21 :: o22 :: o23 :: o24 :: o25 :: o26 :: o27 :: o28 :: o29 :: o30 :: o31 :: o32 :: o33 :: o34 :: o35 :: r).toArray Q S fuel listed a w (35 :: rs) :=
  AllReadyH.cons rfl h hs
theorem tk36 {P : Program} {md : Region.Mode} {Q : Exit → Act → World → Prop} {S : World → Prop} {o0 o1 o2 o3 o4 o5 o6 o7 o8 o9 o10 o11 o12 o13 o14 o15 o16 o17 o18 o19 o20 o21 o22 o23 o24 o25 o26 o27 o28 o29 o30 o31 o32 o33 o34 o35 o36 : Oper} {r : List Oper} {v : Value} {fuel : Nat} {listed : Array Bool} {a : Act} {w : World}
    (hs : Region.noSelect (o0 :: o1 :: o2 :: o3 :: o4 :: o5 :: o6 :: o7 :: o8 :: o9 :: o10 :: o11 :: o12 :: o13 :: o14 :: o15 :: o16 :: o17 :: o18 :: o19 :: o20 :: o21 :: o22 :: o23 :: o24 :: o25 :: o26 :: o27 :: o28 :: o29 :: o30 :: o31 :: o32 :: o33 :: o34 :: o35 :: o36 :: r).toArray = true) (hf : Region.free md (o0 :: o1 :: o2 :: o3 :: o4 :: o5 :: o6 :: o7 :: o8 :: o9 :: o10 :: o11 :: o12 :: o13 :: o14 :: o15 :: o16 :: o17 :: o18 :: o19 :: o20 :: o21 :: o22 :: o23 :: o24 :: o25 :: o26 :: o27 :: o28 :: o29 :: o30 :: o31 :: o32 :: o33 :: o34 :: o35 :: o36 :: r).toArray listed 36 = true) (hr : (Region.ready md (o0 :: o1 :: o2 :: o3 :: o4 :: o5 :: o6 :: o7 :: o8 :: o9 :: o10 :: o11 :: o12 :: o13 :: o14 :: o15 :: o16 :: o17 :: o18 :: o19 :: o20 :: o21 :: o22 :: o23 :: o24 :: o25 :: o26 :: o27 :: o28 :: o29 :: o30 :: o31 :: o32 :: o33 :: o34 :: o35 :: o36 :: r).toArray listed).contains 36 = true)
    (hQ : ∀ c a w, Q (.panic c) (a.put o36.dst v) w → Q (.panic c) a w) (hS : S w) (hy : YieldsIf P (o0 :: o1 :: o2 :: o3 :: o4 :: o5 :: o6 :: o7 :: o8 :: o9 :: o10 :: o11 :: o12 :: o13 :: o14 :: o15 :: o16 :: o17 :: o18 :: o19 :: o20 :: o21 :: o22 :: o23 :: o24 :: o25 :: o26 :: o27 :: o28 :: o29 :: o30 :: o31 :: o32 :: o33 :: o34 :: o35 :: o36 :: r).toArray S o36 v a)
    (h : wpAnyH P md (o0 :: o1 :: o2 :: o3 :: o4 :: o5 :: o6 :: o7 :: o8 :: o9 :: o10 :: o11 :: o12 :: o13 :: o14 :: o15 :: o16 :: o17 :: o18 :: o19 :: o20 :: o21 :: o22 :: o23 :: o24 :: o25 :: o26 :: o27 :: o28 :: o29 :: o30 :: o31 :: o32 :: o33 :: o34 :: o35 :: o36 :: r).toArray Q S fuel (listed.setIfInBounds 36 true) (a.put o36.dst v) w) : wpAnyH P md (o0 :: o1 :: o2 :: o3 :: o4 :: o5 :: o6 :: o7 :: o8 :: o9 :: o10 :: o11 :: o12 :: o13 :: o14 :: o15 :: o16 :: o17 :: o18 :: o19 :: o20 :: o21 :: o22 :: o23 :: o24 :: o25 :: o26 :: o27 :: o28 :: o29 :: o30 :: o31 :: o32 :: o33 :: o34 :: o35 :: o36 :: r).toArray Q S (fuel + 1) listed a w :=
  wpAnyH_take rfl hs hf hr hQ hy hS h
theorem rd36 {P : Program} {md : Region.Mode} {Q : Exit → Act → World → Prop} {S : World → Prop} {o0 o1 o2 o3 o4 o5 o6 o7 o8 o9 o10 o11 o12 o13 o14 o15 o16 o17 o18 o19 o20 o21 o22 o23 o24 o25 o26 o27 o28 o29 o30 o31 o32 o33 o34 o35 o36 : Oper} {r : List Oper} {fuel : Nat} {listed : Array Bool} {a : Act} {w : World} {rs : List Nat}
    (h : ∀ K' : Act → World → Prop, Shut (∀ a w, S w → (S w → wpAnyH P md (o0 :: o1 :: o2 :: o3 :: o4 :: o5 :: o6 :: o7 :: o8 :: o9 :: o10 :: o11 :: o12 :: o13 :: o14 :: o15 :: o16 :: o17 :: o18 :: o19 :: o20 :: o21 :: o22 :: o23 :: o24 :: o25 :: o26 :: o27 :: o28 :: o29 :: o30 :: o31 :: o32 :: o33 :: o34 :: o35 :: o36 :: r).toArray Q S fuel (listed.setIfInBounds 36 true) a w) → K' a w) → if Region.wanted o36 (yielded (o0 :: o1 :: o2 :: o3 :: o4 :: o5 :: o6 :: o7 :: o8 :: o9 :: o10 :: o11 :: o12 :: o13 :: o14 :: o15 :: o16 :: o17 :: o18 :: o19 :: o20 :: o21 :: o22 :: o23 :: o24 :: o25 :: o26 :: o27 :: o28 :: o29 :: o30 :: o31 :: o32 :: o33 :: o34 :: o35 :: o36 :: r).toArray a.tmps) = true then Oper.wp P o36 a w K' Q else K' (a.put o36.dst undef) w)
    (hs : AllReadyH P md (o0 :: o1 :: o2 :: o3 :: o4 :: o5 :: o6 :: o7 :: o8 :: o9 :: o10 :: o11 :: o12 :: o13 :: o14 :: o15 :: o16 :: o17 :: o18 :: o19 :: o20 :: o21 :: o22 :: o23 :: o24 :: o25 :: o26 :: o27 :: o28 :: o29 :: o30 :: o31 :: o32 :: o33 :: o34 :: o35 :: o36 :: r).toArray Q S fuel listed a w rs) : AllReadyH P md (o0 :: o1 :: o2 :: o3 :: o4 :: o5 :: o6 :: o7 :: o8 :: o9 :: o10 :: o11 :: o12 :: o13 :: o14 :: o15 :: o16 :: o17 :: o18 :: o19 :: o20 :: o21 :: o22 :: o23 :: o24 :: o25 :: o26 :: o27 :: o28 :: o29 :: o30 :: o31 :: o32 :: o33 :: o34 :: o35 :: o36 :: r).toArray Q S fuel listed a w (36 :: rs) :=
  AllReadyH.cons rfl h hs
theorem tk37 {P : Program} {md : Region.Mode} {Q : Exit → Act → World → Prop} {S : World → Prop} {o0 o1 o2 o3 o4 o5 o6 o7 o8 o9 o10 o11 o12 o13 o14 o15 o16 o17 o18 o19 o20 o21 o22 o23 o24 o25 o26 o27 o28 o29 o30 o31 o32 o33 o34 o35 o36 o37 : Oper} {r : List Oper} {v : Value} {fuel : Nat} {listed : Array Bool} {a : Act} {w : World}
    (hs : Region.noSelect (o0 :: o1 :: o2 :: o3 :: o4 :: o5 :: o6 :: o7 :: o8 :: o9 :: o10 :: o11 :: o12 :: o13 :: o14 :: o15 :: o16 :: o17 :: o18 :: o19 :: o20 :: o21 :: o22 :: o23 :: o24 :: o25 :: o26 :: o27 :: o28 :: o29 :: o30 :: o31 :: o32 :: o33 :: o34 :: o35 :: o36 :: o37 :: r).toArray = true) (hf : Region.free md (o0 :: o1 :: o2 :: o3 :: o4 :: o5 :: o6 :: o7 :: o8 :: o9 :: o10 :: o11 :: o12 :: o13 :: o14 :: o15 :: o16 :: o17 :: o18 :: o19 :: o20 :: o21 :: o22 :: o23 :: o24 :: o25 :: o26 :: o27 :: o28 :: o29 :: o30 :: o31 :: o32 :: o33 :: o34 :: o35 :: o36 :: o37 :: r).toArray listed 37 = true) (hr : (Region.ready md (o0 :: o1 :: o2 :: o3 :: o4 :: o5 :: o6 :: o7 :: o8 :: o9 :: o10 :: o11 :: o12 :: o13 :: o14 :: o15 :: o16 :: o17 :: o18 :: o19 :: o20 :: o21 :: o22 :: o23 :: o24 :: o25 :: o26 :: o27 :: o28 :: o29 :: o30 :: o31 :: o32 :: o33 :: o34 :: o35 :: o36 :: o37 :: r).toArray listed).contains 37 = true)
    (hQ : ∀ c a w, Q (.panic c) (a.put o37.dst v) w → Q (.panic c) a w) (hS : S w) (hy : YieldsIf P (o0 :: o1 :: o2 :: o3 :: o4 :: o5 :: o6 :: o7 :: o8 :: o9 :: o10 :: o11 :: o12 :: o13 :: o14 :: o15 :: o16 :: o17 :: o18 :: o19 :: o20 :: o21 :: o22 :: o23 :: o24 :: o25 :: o26 :: o27 :: o28 :: o29 :: o30 :: o31 :: o32 :: o33 :: o34 :: o35 :: o36 :: o37 :: r).toArray S o37 v a)
    (h : wpAnyH P md (o0 :: o1 :: o2 :: o3 :: o4 :: o5 :: o6 :: o7 :: o8 :: o9 :: o10 :: o11 :: o12 :: o13 :: o14 :: o15 :: o16 :: o17 :: o18 :: o19 :: o20 :: o21 :: o22 :: o23 :: o24 :: o25 :: o26 :: o27 :: o28 :: o29 :: o30 :: o31 :: o32 :: o33 :: o34 :: o35 :: o36 :: o37 :: r).toArray Q S fuel (listed.setIfInBounds 37 true) (a.put o37.dst v) w) : wpAnyH P md (o0 :: o1 :: o2 :: o3 :: o4 :: o5 :: o6 :: o7 :: o8 :: o9 :: o10 :: o11 :: o12 :: o13 :: o14 :: o15 :: o16 :: o17 :: o18 :: o19 :: o20 :: o21 :: o22 :: o23 :: o24 :: o25 :: o26 :: o27 :: o28 :: o29 :: o30 :: o31 :: o32 :: o33 :: o34 :: o35 :: o36 :: o37 :: r).toArray Q S (fuel + 1) listed a w :=
  wpAnyH_take rfl hs hf hr hQ hy hS h
theorem rd37 {P : Program} {md : Region.Mode} {Q : Exit → Act → World → Prop} {S : World → Prop} {o0 o1 o2 o3 o4 o5 o6 o7 o8 o9 o10 o11 o12 o13 o14 o15 o16 o17 o18 o19 o20 o21 o22 o23 o24 o25 o26 o27 o28 o29 o30 o31 o32 o33 o34 o35 o36 o37 : Oper} {r : List Oper} {fuel : Nat} {listed : Array Bool} {a : Act} {w : World} {rs : List Nat}
    (h : ∀ K' : Act → World → Prop, Shut (∀ a w, S w → (S w → wpAnyH P md (o0 :: o1 :: o2 :: o3 :: o4 :: o5 :: o6 :: o7 :: o8 :: o9 :: o10 :: o11 :: o12 :: o13 :: o14 :: o15 :: o16 :: o17 :: o18 :: o19 :: o20 :: o21 :: o22 :: o23 :: o24 :: o25 :: o26 :: o27 :: o28 :: o29 :: o30 :: o31 :: o32 :: o33 :: o34 :: o35 :: o36 :: o37 :: r).toArray Q S fuel (listed.setIfInBounds 37 true) a w) → K' a w) → if Region.wanted o37 (yielded (o0 :: o1 :: o2 :: o3 :: o4 :: o5 :: o6 :: o7 :: o8 :: o9 :: o10 :: o11 :: o12 :: o13 :: o14 :: o15 :: o16 :: o17 :: o18 :: o19 :: o20 :: o21 :: o22 :: o23 :: o24 :: o25 :: o26 :: o27 :: o28 :: o29 :: o30 :: o31 :: o32 :: o33 :: o34 :: o35 :: o36 :: o37 :: r).toArray a.tmps) = true then Oper.wp P o37 a w K' Q else K' (a.put o37.dst undef) w)
    (hs : AllReadyH P md (o0 :: o1 :: o2 :: o3 :: o4 :: o5 :: o6 :: o7 :: o8 :: o9 :: o10 :: o11 :: o12 :: o13 :: o14 :: o15 :: o16 :: o17 :: o18 :: o19 :: o20 :: o21 :: o22 :: o23 :: o24 :: o25 :: o26 :: o27 :: o28 :: o29 :: o30 :: o31 :: o32 :: o33 :: o34 :: o35 :: o36 :: o37 :: r).toArray Q S fuel listed a w rs) : AllReadyH P md (o0 :: o1 :: o2 :: o3 :: o4 :: o5 :: o6 :: o7 :: o8 :: o9 :: o10 :: o11 :: o12 :: o13 :: o14 :: o15 :: o16 :: o17 :: o18 :: o19 :: o20 :: o21 :: o22 :: o23 :: o24 :: o25 :: o26 :: o27 :: o28 :: o29 :: o30 :: o31 :: o32 :: o33 :: o34 :: o35 :: o36 :: o37 :: r).toArray Q S fuel listed a w (37 :: rs) :=
  AllReadyH.cons rfl h hs
theorem tk38 {P : Program} {md : Region.Mode} {Q : Exit → Act → World → Prop} {S : World → Prop} {o0 o1 o2 o3 o4 o5 o6 o7 o8 o9 o10 o11 o12 o13 o14 o15 o16 o17 o18 o19 o20 o21 o22 o23 o24 o25 o26 o27 o28 o29 o30 o31 o32 o33 o34 o35 o36 o37 o38 : Oper} {r : List Oper} {v : Value} {fuel : Nat} {listed : Array Bool} {a : Act} {w : World}
    (hs : Region.noSelect (o0 :: o1 :: o2 :: o3 :: o4 :: o5 :: o6 :: o7 :: o8 :: o9 :: o10 :: o11 :: o12 :: o13 :: o14 :: o15 :: o16 :: o17 :: o18 :: o19 :: o20 :: o21 :: o22 :: o23 :: o24 :: o25 :: o26 :: o27 :: o28 :: o29 :: o30 :: o31 :: o32 :: o33 :: o34 :: o35 :: o36 :: o37 :: o38 :: r).toArray = true) (hf : Region.free md (o0 :: o1 :: o2 :: o3 :: o4 :: o5 :: o6 :: o7 :: o8 :: o9 :: o10 :: o11 :: o12 :: o13 :: o14 :: o15 :: o16 :: o17 :: o18 :: o19 :: o20 :: o21 :: o22 :: o23 :: o24 :: o25 :: o26 :: o27 :: o28 :: o29 :: o30 :: o31 :: o32 :: o33 :: o34 :: o35 :: o36 :: o37 :: o38 :: r).toArray listed 38 = true) (hr : (Region.ready md (o0 :: o1 :: o2 :: o3 :: o4 :: o5 :: o6 :: o7 :: o8 :: o9 :: o10 :: o11 :: o12 :: o13 :: o14 :: o15 :: o16 :: o17 :: o18 :: o19 :: o20 :: o21 :: o22 :: o23 :: o24 :: o25 :: o26 :: o27 :: o28 :: o29 :: o30 :: o31 :: o32 :: o33 :: o34 :: o35 :: o36 :: o37 :: o38 :: r).toArray listed).contains 38 = true)
    (hQ : ∀ c a w, Q (.panic c) (a.put o38.dst v) w → Q (.panic c) a w) (hS : S w) (hy : YieldsIf P (o0 :: o1 :: o2 :: o3 :: o4 :: o5 :: o6 :: o7 :: o8 :: o9 :: o10 :: o11 :: o12 :: o13 :: o14 :: o15 :: o16 :: o17 :: o18 :: o19 :: o20 :: o21 :: o22 :: o23 :: o24 :: o25 :: o26 :: o27 :: o28 :: o29 :: o30 :: o31 :: o32 :: o33 :: o34 :: o35 :: o36 :: o37 :: o38 :: r).toArray S o38 v a)
    (h : wpAnyH P md (o0 :: o1 :: o2 :: o3 :: o4 :: o5 :: o6 :: o7 :: o8 :: o9 :: o10 :: o11 :: o12 :: o13 :: o14 :: o15 :: o16 :: o17 :: o18 :: o19 :: o20 :: o21 :: o22 :: o23 :: o24 :: o25 :: o26 :: o27 :: o28 :: o29 :: o30 :: o31 :: o32 :: o33 :: o34 :: o35 :: o36 :: o37 :: o38 :: r).toArray Q S fuel (listed.setIfInBounds 38 true) (a.put o38.dst v) w) : wpAnyH P md (o0 :: o1 :: o2 :: o3 :: o4 :: o5 :: o6 :: o7 :: o8 :: o9 :: o10 :: o11 :: o12 :: o13 :: o14 :: o15 :: o16 :: o17 :: o18 :: o19 :: o20 :: o21 :: o22 :: o23 :: o24 :: o25 :: o26 :: o27 :: o28 :: o29 :: o30 :: o31 :: o32 :: o33 :: o34 :: o35 :: o36 :: o37 :: o38 :: r).toArray Q S (fuel + 1) listed a w :=
  wpAnyH_take rfl hs hf hr hQ hy hS h
theorem rd38 {P : Program} {md : Region.Mode} {Q : Exit → Act → World → Prop} {S : World → Prop} {o0 o1 o2 o3 o4 o5 o6 o7 o8 o9 o10 o11 o12 o13 o14 o15 o16 o17 o18 o19 o20 o21 o22 o23 o24 o25 o26 o27 o28 o29 o30 o31 o32 o33 o34 o35 o36 o37 o38 : Oper} {r : List Oper} {fuel : Nat} {listed : Array Bool} {a : Act} {w : World} {rs : List Nat}
    (h : ∀ K' : Act → World → Prop, Shut (∀ a w, S w → (S w → wpAnyH P md (o0 :: o1 :: o2 :: o3 :: o4 :: o5 :: o6 :: o7 :: o8 :: o9 :: o10 :: o11 :: o12 :: o13 :: o14 :: o15 :: o16 :: o17 :: o18 :: o19 :: o20 :: o21 :: o22 :: o23 :: o24 :: o25 :: o26 :: o27 :: o28 :: o29 :: o30 :: o31 :: o32 :: o33 :: o34 :: o35 :: o36 :: o37 :: o38 :: r).toArray Q S fuel (listed.setIfInBounds 38 true) a w) → K' a w) → if Region.wanted o38 (yielded (o0 :: o1 :: o2 :: o3 :: o4 :: o5 :: o6 :: o7 :: o8 :: o9 :: o10 :: o11 :: o12 :: o13 :: o14 :: o15 :: o16 :: o17 :: o18 :: o19 :: o20 :: o21 :: o22 :: o23 :: o24 :: o25 :: o26 :: o27 :: o28 :: o29 :: o30 :: o31 :: o32 :: o33 :: o34 :: o35 :: o36 :: o37 :: o38 :: r).toArray a.tmps) = true then Oper.wp P o38 a w K' Q else K' (a.put o38.dst undef) w)
    (hs : AllReadyH P md (o0 :: o1 :: o2 :: o3 :: o4 :: o5 :: o6 :: o7 :: o8 :: o9 :: o10 :: o11 :: o12 :: o13 :: o14 :: o15 :: o16 :: o17 :: o18 :: o19 :: o20 :: o21 :: o22 :: o23 :: o24 :: o25 :: o26 :: o27 :: o28 :: o29 :: o30 :: o31 :: o32 :: o33 :: o34 :: o35 :: o36 :: o37 :: o38 :: r).toArray Q S fuel listed a w rs) : AllReadyH P md (o0 :: o1 :: o2 :: o3 :: o4 :: o5 :: o6 :: o7 :: o8 :: o9 :: o10 :: o11 :: o12 :: o13 :: o14 :: o15 :: o16 :: o17 :: o18 :: o19 :: o20 :: o21 :: o22 :: o23 :: o24 :: o25 :: o26 :: o27 :: o28 :: o29 :: o30 :: o31 :: o32 :: o33 :: o34 :: o35 :: o36 :: o37 :: o38 :: r).toArray Q S fuel listed a w (38 :: rs) :=
  AllReadyH.cons rfl h hs
theorem tk39 {P : Program} {md : Region.Mode} {Q : Exit → Act → World → Prop} {S : World → Prop} {o0 o1 o2 o3 o4 o5 o6 o7 o8 o9 o10 o11 o12 o13 o14 o15 o16 o17 o18 o19 o20 o21 o22 o23 o24 o25 o26 o27 o28 o29 o30 o31 o32 o33 o34 o35 o36 o37 o38 o39 : Oper} {r : List Oper} {v : Value} {fuel : Nat} {listed : Array Bool} {a : Act} {w : World}
    (hs : Region.noSelect (o0 :: o1 :: o2 :: o3 :: o4 :: o5 :: o6 :: o7 :: o8 :: o9 :: o10 :: o11 :: o12 :: o13 :: o14 :: o15 :: o16 :: o17 :: o18 :: o19 :: o20 :: o21 :: o22 :: o23 :: o24 :: o25 :: o26 :: o27 :: o28 :: o29 :: o30 :: o31 :: o32 :: o33 :: o34 :: o35 :: o36 :: o37 :: o38 :: o39 :: r).toArray = true) (hf : Region.free md (o0 :: o1 :: o2 :: o3 :: o4 :: o5 :: o6 :: o7 :: o8 :: o9 :: o10 :: o11 :: o12 :: o13 :: o14 :: o15 :: o16 :: o17 :: o18 :: o19 :: o20 :: o21 :: o22 :: o23 :: o24 :: o25 :: o26 :: o27 :: o28 :: o29 :: o30 :: o31 :: o32 :: o33 :: o34 :: o35 :: o36 :: o37 :: o38 :: o39 :: r).toArray listed 39 = true) (hr : (Region.ready md (o0 :: o1 :: o2 :: o3 :: o4 :: o5 :: o6 :: o7 :: o8 :: o9 :: o10 :: o11 :: o12 :: o13 :: o14 :: o15 :: o16 :: o17 :: o18 :: o19 :: o20 :: o21 :: o22 :: o23 :: o24 :: o25 :: o26 :: o27 :: o28 :: o29 :: o30 :: o31 :: o32 :: o33 :: o34 :: o35 :: o36 :: o37 :: o38 :: o39 :: r).toArray listed).contains 39 = true)
    (hQ : ∀ c a w, Q (.panic c) (a.put o39.dst v) w → Q (.panic c) a w) (hS : S w) (hy : YieldsIf P (o0 :: o1 :: o2 :: o3 :: o4 :: o5 :: o6 :: o7 :: o8 :: o9 :: o10 :: o11 :: o12 :: o13 :: o14 :: o15 :: o16 :: o17 :: o18 :: o19 :: o20 :: o21 :: o22 :: o23 :: o24 :: o25 :: o26 :: o27 :: o28 :: o29 :: o30 :: o31 :: o32 :: o33 :: o34 :: o35 :: o36 :: o37 :: o38 :: o39 :: r).toArray S o39 v a)
    (h : wpAnyH P md (o0 :: o1 :: o2 :: o3 :: o4 :: o5 :: o6 :: o7 :: o8 :: o9 :: o10 :: o11 :: o12 :: o13 :: o14 :: o15 :: o16 :: o17 :: o18 :: o19 :: o20 :: o21 :: o22 :: o23 :: o24 :: o25 :: o26 :: o27 :: o28 :: o29 :: o30 :: o31 :: o32 :: o33 :: o34 :: o35 :: o36 :: o37 :: o38 :: o39 :: r).toArray Q S fuel (listed.setIfInBounds 39 true) (a.put o39.dst v) w) : wpAnyH P md (o0 :: o1 :: o2 :: o3 :: o4 :: o5 :: o6 :: o7 :: o8 :: o9 :: o10 :: o11 :: o12 :: o13 :: o14 :: o15 :: o16 :: o17 :: o18 :: o19 :: o20 :: o21 :: o22 :: o23 :: o24 :: o25 :: o26 :: o27 :: o28 :: o29 :: o30 :: o31 :: o32 :: o33 :: o34 :: o35 :: o36 :: o37 :: o38 :: o39 :: r).toArray Q S (fuel + 1) listed a w :=
  wpAnyH_take rfl hs hf hr hQ hy hS h
theorem rd39 {P : Program} {md : Region.Mode} {Q : Exit → Act → World → Prop} {S : World → Prop} {o0 o1 o2 o3 o4 o5 o6 o7 o8 o9 o10 o11 o12 o13 o14 o15 o16 o17 o18 o19 o20 o21 o22 o23 o24 o25 o26 o27 o28 o29 o30 o31 o32 o33 o34 o35 o36 o37 o38 o39 : Oper} {r : List Oper} {fuel : Nat} {listed : Array Bool} {a : Act} {w : World} {rs : List Nat}
    (h : ∀ K' : Act → World → Prop, Shut (∀ a w, S w → (S w → wpAnyH P md (o0 :: o1 :: o2 :: o3 :: o4 :: o5 :: o6 :: o7 :: o8 :: o9 :: o10 :: o11 :: o12 :: o13 :: o14 :: o15 :: o16 :: o17 :: o18 :: o19 :: o20 :: o21 :: o22 :: o23 :: o24 :: o25 :: o26 :: o27 :: o28 :: o29 :: o30 :: o31 :: o32 :: o33 :: o34 :: o35 :: o36 :: o37 :: o38 :: o39 :: r).toArray Q S fuel (listed.setIfInBounds 39 true) a w) → K' a w) → if Region.wanted o39 (yielded (o0 :: o1 :: o2 :: o3 :: o4 :: o5 :: o6 :: o7 :: o8 :: o9 :: o10 :: o11 :: o12 :: o13 :: o14 :: o15 :: o16 :: o17 :: o18 :: o19 :: o20 :: o21 :: o22 :: o23 :: o24 :: o25 :: o26 :: o27 :: o28 :: o29 :: o30 :: o31 :: o32 :: o33 :: o34 :: o35 :: o36 :: o37 :: o38 :: o39 :: r).toArray a.tmps) = true then Oper.wp P o39 a w K' Q else K' (a.put o39.dst undef) w)
    (hs : AllReadyH P md (o0 :: o1 :: o2 :: o3 :: o4 :: o5 :: o6 :: o7 :: o8 :: o9 :: o10 :: o11 :: o12 :: o13 :: o14 :: o15 :: o16 :: o17 :: o18 :: o19 :: o20 :: o21 :: o22 :: o23 :: o24 :: o25 :: o26 :: o27 :: o28 :: o29 :: o30 :: o31 :: o32 :: o33 :: o34 :: o35 :: o36 :: o37 :: o38 :: o39 :: r).toArray Q S fuel listed a w rs) : AllReadyH P md (o0 :: o1 :: o2 :: o3 :: o4 :: o5 :: o6 :: o7 :: o8 :: o9 :: o10 :: o11 :: o12 :: o13 :: o14 :: o15 :: o16 :: o17 :: o18 :: o19 :: o20 :: o21 :: o22 :: o23 :: o24 :: o25 :: o26 :: o27 :: o28 :: o29 :: o30 :: o31 :: o32 :: o33 :: o34 :: o35 :: o36 :: o37 :: o38 :: o39 :: r).toArray Q S fuel listed a w (39 :: rs) :=
  AllReadyH.cons rfl h hs
theorem tk40 {P : Program} {md : Region.Mode} {Q : Exit → Act → World → Prop} {S : World → Prop} {o0 o1 o2 o3 o4 o5 o6 o7 o8 o9 o10 o11 o12 o13 o14 o15 o16 o17 o18 o19 o20 o21 o22 o23 o24 o25 o26 o27 o28 o29 o30 o31 o32 o33 o34 o35 o36 o37 o38 o39 o40 : Oper} {r : List Oper} {v : Value} {fuel : Nat} {listed : Array Bool} {a : Act} {w : World}
    (hs : Region.noSelect (o0 :: o1 :: o2 :: o3 :: o4 :: o5 :: o6 :: o7 :: o8 :: o9 :: o10 :: o11 :: o12 :: o13 :: o14 :: o15 :: o16 :: o17 :: o18 :: o19 :: o20 :: o21 :: o22 :: o23 :: o24 :: o25 :: o26 :: o27 :: o28 :: o29 :: o30 :: o31 :: o32 :: o33 :: o34 :: o35 :: o36 :: o37 :: o38 :: o39 :: o40 :: r).toArray = true) (hf : Region.free md (o0 :: o1 :: o2 :: o3 :: o4 :: o5 :: o6 :: o7 :: o8 :: o9 :: o10 :: o11 :: o12 :: o13 :: o14 :: o15 :: o16 :: o17 :: o18 :: o19 :: o20 :: o21 :: o22 :: o23 :: o24 :: o25 :: o26 :: o27 :: o28 :: o29 :: o30 :: o31 :: o32 :: o33 :: o34 :: o35 :: o36 :: o37 :: o38 :: o39 :: o40 :: r).toArray listed 40 = true) (hr : (Region.ready md (o0 :: o1 :: o2 :: o3 :: o4 :: o5 :: o6 :: o7 :: o8 :: o9 :: o10 :: o11 :: o12 :: o13 :: o14 :: o15 :: o16 :: o17 :: o18 :: o19 :: o20 :: o21 :: o22 :: o23 :: o24 :: o25 :: o26 :: o27 :: o28 :: o29 :: o30 :: o31 :: o32 :: o33 :: o34 :: o35 :: o36 :: o37 :: o38 :: o39 :: o40 :: r).toArray listed).contains 40 = true)
    (hQ : ∀ c a w, Q (.panic c) (a.put o40.dst v) w → Q (.panic c) a w) (hS : S w) (hy : YieldsIf P (o0 :: o1 :: o2 :: o3 :: o4 :: o5 :: o6 :: o7 :: o8 :: o9 :: o10 :: o11 :: o12 :: o13 :: o14 :: o15 :: o16 :: o17 :: o18 :: o19 :: o20 :: o21 :: o22 :: o23 :: o24 :: o25 :: o26 :: o27 :: o28 :: o29 :: o30 :: o31 :: o32 :: o33 :: o34 :: o35 :: o36 :: o37 :: o38 :: o39 :: o40 :: r).toArray S o40 v a)
    (h : wpAnyH P md (o0 :: o1 :: o2 :: o3 :: o4 :: o5 :: o6 :: o7 :: o8 :: o9 :: o10 :: o11 :: o12 :: o13 :: o14 :: o15 :: o16 :: o17 :: o18 :: o19 :: o20 :: o21 :: o22 :: o23 :: o24 :: o25 :: o26 :: o27 :: o28 :: o29 :: o30 :: o31 :: o32 :: o33 :: o34 :: o35 :: o36 :: o37 :: o38 :: o39 :: o40 :: r).toArray Q S fuel (listed.setIfInBounds 40 true) (a.put o40.dst v) w) : wpAnyH P md (o0 :: o1 :: o2 :: o3 :: o4 :: o5 :: o6 :: o7 :: o8 :: o9 :: o10 :: o11 :: o12 :: o13 :: o14 :: o15 :: o16 :: o17 :: o18 :: o19 :: o20 :: o21 :: o22 :: o23 :: o24 :: o25 :: o26 :: o27 :: o28 :: o29 :: o30 :: o31 :: o32 :: o33 :: o34 :: o35 :: o36 :: o37 :: o38 :: o39 :: o40 :: r).toArray Q S (fuel + 1) listed a w :=
  wpAnyH_take rfl hs hf hr hQ hy hS h
theorem rd40 {P : Program} {md : Region.Mode} {Q : Exit → Act → World → Prop} {S : World → Prop} {o0 o1 o2 o3 o4 o5 o6 o7 o8 o9 o10 o11 o12 o13 o14 o15 o16 o17 o18 o19 o20 o21 o22 o23 o24 o25 o26 o27 o28 o29 o30 o31 o32 o33 o34 o35 o36 o37 o38 o39 o40 : Oper} {r : List Oper} {fuel : Nat} {listed : Array Bool} {a : Act} {w : World} {rs : List Nat}
    (h : ∀ K' : Act → World → Prop, Shut (∀ a w, S w → (S w → wpAnyH P md (o0 :: o1 :: o2 :: o3 :: o4 :: o5 :: o6 :: o7 :: o8 :: o9 :: o10 :: o11 :: o12 :: o13 :: o14 :: o15 :: o16 :: o17 :: o18 :: o19 :: o20 :: o21 :: o22 :: o23 :: o24 :: o25 :: o26 :: o27 :: o28 :: o29 :: o30 :: o31 :: o32 :: o33 :: o34 :: o35 :: o36 :: o37 :: o38 :: o39 :: o40 :: r).toArray Q S fuel (listed.setIfInBounds 40 true) a w) → K' a w) → if Region.wanted o40 (yielded (o0 :: o1 :: o2 :: o3 :: o4 :: o5 :: o6 :: o7 :: o8 :: o9 :: o10 :: o11 :: o12 :: o13 :: o14 :: o15 :: o16 :: o17 :: o18 :: o19 :: o20 :: o21 :: o22 :: o23 :: o24 :: o25 :: o26 :: o27 :: o28 :: o29 :: o30 :: o31 :: o32 :: o33 :: o34 :: o35 :: o36 :: o37 :: o38 :: o39 :: o40 :: r).toArray a.tmps) = true then Oper.wp P o40 a w K' Q else K' (a.put o40.dst undef) w)
    (hs : AllReadyH P md (o0 :: o1 :: o2 :: o3 :: o4 :: o5 :: o6 :: o7 :: o8 :: o9 :: o10 :: o11 :: o12 :: o13 :: o14 :: o15 :: o16 :: o17 :: o18 :: o19 :: o20 :: o21 :: o22 :: o23 :: o24 :: o25 :: o26 :: o27 :: o28 :: o29 :: o30 :: o31 :: o32 :: o33 :: o34 :: o35 :: o36 :: o37 :: o38 :: o39 :: o40 :: r).toArray Q S fuel listed a w rs) : AllReadyH P md (o0 :: o1 :: o2 :: o3 :: o4 :: o5 :: o6 :: o7 :: o8 :: o9 :: o10 :: o11 :: o12 :: o13 :: o14 :: o15 :: o16 :: o17 :: o18 :: o19 :: o20 :: o21 :: o22 :: o23 :: o24 :: o25 :: o26 :: o27 :: o28 :: o29 :: o30 :: o31 :: o32 :: o33 :: o34 :: o35 :: o36 :: o37 :: o38 :: o39 :: o40 :: r).toArray Q S fuel listed a w (40 :: rs) :=
  AllReadyH.cons rfl h hs
theorem tk41 {P : Program} {md : Region.Mode} {Q : Exit → Act → World → Prop} {S : World → Prop} {o0 o1 o2 o3 o4 o5 o6 o7 o8 o9 o10 o11 o12 o13 o14 o15 o16 o17 o18 o19 o20 o21 o22 o23 o24 o25 o26 o27 o28 o29 o30 o31 o32 o33 o34 o35 o36 o37 o38 o39 o40 o41 : Oper} {r : List Oper} {v : Value} {fuel : Nat} {listed : Array Bool} {a : Act} {w : World}
    (hs : Region.noSelect (o0 :: o1 :: o2 :: o3 :: o4 :: o5 :: o6 :: o7 :: o8 :: o9 :: o10 :: o11 :: o12 :: o13 :: o14 :: o15 :: o16 :: o17 :: o18 :: o19 :: o20 :: o21 :: o22 :: o23 :: o24 :: o25 :: o26 :: o27 :: o28 :: o29 :: o30 :: o31 :: o32 :: o33 :: o34 :: o35 :: o36 :: o37 :: o38 :: o39 :: o40 :: o41 :: r).toArray = true) (hf : Region.free md (o0 :: o1 :: o2 :: o3 :: o4 :: o5 :: o6 :: o7 :: o8 :: o9 :: o10 :: o11 :: o12 :: o13 :: o14 :: o15 :: o16 :: o17 :: o18 :: o19 :: o20 :: o21 :: o22 :: o23 :: o24 :: o25 :: o26 :: o27 :: o28 :: o29 :: o30 :: o31 :: o32 :: o33 :: o34 :: o35 :: o36 :: o37 :: o38 :: o39 :: o40 :: o41 :: r).toArray listed 41 = true) (hr : (Region.ready md (o0 :: o1 :: o2 :: o3 :: o4 :: o5 :: o6 :: o7 :: o8 :: o9 :: o10 :: o11 :: o12 :: o13 :: o14 :: o15 :: o16 :: o17 :: o18 :: o19 :: o20 :: o21 :: o22 :: o23 :: o24 :: o25 :: o26 :: o27 :: o28 :: o29 :: o30 :: o31 :: o32 :: o33 :: o34 :: o35 :: o36 :: o37 :: o38 :: o39 :: o40 :: o41 :: r).toArray listed).contains 41 = true)
    (hQ : ∀ c a w, Q (.panic c) (a.put o41.dst v) w → Q (.panic c) a w) (hS : S w) (hy : YieldsIf P (o0 :: o1 :: o2 :: o3 :: o4 :: o5 :: o6 :: o7 :: o8 :: o9 :: o10 :: o11 :: o12 :: o13 :: o14 :: o15 :: o16 :: o17 :: o18 :: o19 :: o20 :: o21 :: o22 :: o23 :: o24 :: o25 :: o26 :: o27 :: o28 :: o29 :: o30 :: o31 :: o32 :: o33 :: o34 :: o35 :: o36 :: o37 :: o38 :: o39 :: o40 :: o41 :: r).toArray S o41 v a)
    (h : wpAnyH P md (o0 :: o1 :: o2 :: o3 :: o4 :: o5 :: o6 :: o7 :: o8 :: o9 :: o10 :: o11 :: o12 :: o13 :: o14 :: o15 :: o16 :: o17 :: o18 :: o19 :: o20 :: o21 :: o22 :: o23 :: o24 :: o25 :: o26 :: o27 :: o28 :: o29 :: o30 :: o31 :: o32 :: o33 :: o34 :: o35 :: o36 :: o37 :: o38 :: o39 :: o40 :: o41 :: r).toArray Q S fuel (listed.setIfInBounds 41 true) (a.put o41.dst v) w) : wpAnyH P md (o0 :: o1 :: o2 :: o3 :: o4 :: o5 :: o6 :: o7 :: o8 :: o9 :: o10 :: o11 :: o12 :: o13 :: o14 :: o15 :: o16 :: o17 :: o18 :: o19 :: o20 :: o21 :: o22 :: o23 :: o24 :: o25 :: o26 :: o27 :: o28 :: o29 :: o30 :: o31 :: o32 :: o33 :: o34 :: o35 :: o36 :: o37 :: o38 :: o39 :: o40 :: o41 :: r).toArray Q S (fuel + 1) listed a w :=
  wpAnyH_take rfl hs hf hr hQ hy hS h
theorem rd41 {P : Program} {md : Region.Mode} {Q : Exit → Act → World → Prop} {S : World → Prop} {o0 o1 o2 o3 o4 o5 o6 o7 o8 o9 o10 o11 o12 o13 o14 o15 o16 o17 o18 o19 o20 o21 o22 o23 o24 o25 o26 o27 o28 o29 o30 o31 o32 o33 o34 o35 o36 o37 o38 o39 o40 o41 : Oper} {r : List Oper} {fuel : Nat} {listed : Array Bool} {a : Act} {w : World} {rs : List Nat}
    (h : ∀ K' : Act → World → Prop, Shut (∀ a w, S w → (S w → wpAnyH P md (o0 :: o1 :: o2 :: o3 :: o4 :: o5 :: o6 :: o7 :: o8 :: o9 :: o10 :: o11 :: o12 :: o13 :: o14 :: o15 :: o16 :: o17 :: o18 :: o19 :: o20 :: o21 :: o22 :: o23 :: o24 :: o25 :: o26 :: o27 :: o28 :: o29 :: o30 :: o31 :: o32 :: o33 :: o34 :: o35 :: o36 :: o37 :: o38 :: o39 :: o40 :: o41 :: r).toArray Q S fuel (listed.setIfInBounds 41 true) a w) → K' a w) → if Region.wanted o41 (yielded (o0 :: o1 :: o2 :: o3 :: o4 :: o5 :: o6 :: o7 :: o8 :: o9 :: o10 :: o11 :: o12 :: o13 :: o14 :: o15 :: o16 :: o17 :: o18 :: o19 :: o20 :: o21 :: o22 :: o23 :: o24 :: o25 :: o26 :: o27 :: o28 :: o29 :: o30 :: o31 :: o32 :: o33 :: o34 :: o35 :: o36 :: o37 :: o38 :: o39 :: o40 :: o41 :: r).toArray a.tmps) = true then Oper.wp P o41 a w K' Q else K' (a.put o41.dst undef) w)
    (hs : AllReadyH P md (o0 :: o1 :: o2 :: o3 :: o4 :: o5 :: o6 :: o7 :: o8 :: o9 :: o10 :: o11 :: o12 :: o13 :: o14 :: o15 :: o16 :: o17 :: o18 :: o19 :: o20 :: o21 :: o22 :: o23 :: o24 :: o25 :: o26 :: o27 :: o28 :: o29 :: o30 :: o31 :: o32 :: o33 :: o34 :: o35 :: o36 :: o37 :: o38 :: o39 :: o40 :: o41 :: r).toArray Q S fuel listed a w rs) : AllReadyH P md (o0 :: o1 :: o2 :: o3 :: o4 :: o5 :: o6 :: o7 :: o8 :: o9 :: o10 :: o11 :: o12 :: o13 :: o14 :: o15 :: o16 :: o17 :: o18 :: o19 :: o20 :: o21 :: o22 :: o23 :: o24 :: o25 :: o26 :: o27 :: o28 :: o29 :: o30 :: o31 :: o32 :: o33 :: o34 :: o35 :: o36 :: o37 :: o38 :: o39 :: o40 :: o41 :: r).toArray Q S fuel listed a w (41 :: rs) :=
  AllReadyH.cons rfl h hs
theorem tk42 {P : Program} {md : Region.Mode} {Q : Exit → Act → World → Prop} {S : World → Prop} {o0 o1 o2 o3 o4 o5 o6 o7 o8 o9 o10 o11 o12 o13 o14 o15 o16 o17 o18 o19 o20 o21 o22 o23 o24 o25 o26 o27 o28 o29 o30 o31 o32 o33 o34 o35 o36 o37 o38 o39 o40 o41 o42 : Oper} {r : List Oper} {v : Value} {fuel : Nat} {listed : Array Bool} {a : Act} {w : World}
    (hs : Region.noSelect (o0 :: o1 :: o2 :: o3 :: o4 :: o5 :: o6 :: o7 :: o8 :: o9 :: o10 :: o11 :: o12 :: o13 :: o14 :: o15 :: o16 :: o17 :: o18 :: o19 :: o20 :: o21 :: o22 :: o23 :: o24 :: o25 :: o26 :: o27 :: o28 :: o29 :: o30 :: o31 :: o32 :: o33 :: o34 :: o35 :: o36 :: o37 :: o38 :: o39 :: o40 :: o41 :: o42 :: r).toArray = true) (hf : Region.free md (o0 :: o1 :: o2 :: o3 :: o4 :: o5 :: o6 :: o7 :: o8 :: o9 :: o10 :: o11 :: o12 :: o13 :: o14 :: o15 :: o16 :: o17 :: o18 :: o19 :: o20 :: o21 :: o22 :: o23 :: o24 :: o25 :: o26 :: o27 :: o28 :: o29 :: o30 :: o31 :: o32 :: o33 :: o34 :: o35 :: o36 :: o37 :: o38 :: o39 :: o40 :: o41 :: o42 :: r).toArray listed 42 = true) (hr : (Region.ready md (o0 :: o1 :: o2 :: o3 :: o4 :: o5 :: o6 :: o7 :: o8 :: o9 :: o10 :: o11 :: o12 :: o13 :: o14 :: o15 :: o16 :: o17 :: o18 :: o19 :: o20 :: o21 :: o22 :: o23 :: o24 :: o25 :: o26 :: o27 :: o28 :: o29 :: o30 :: o31 :: o32 :: o33 :: o34 :: o35 :: o36 :: o37 :: o38 :: o39 :: o40 :: o41 :: o42 :: r).toArray listed).contains 42 = true)
    (hQ : ∀ c a w, Q (.panic c) (a.put o42.dst v) w → Q (.panic c) a w) (hS : S w) (hy : YieldsIf P (o0 :: o1 :: o2 :: o3 :: o4 :: o5 :: o6 :: o7 :: o8 :: o9 :: o10 :: o11 :: o12 :: o13 :: o14 :: o15 :: o16 :: o17 :: o18 :: o19 :: o20 :: o21 :: o22 :: o23 :: o24 :: o25 :: o26 :: o27 :: o28 :: o29 :: o30 :: o31 :: o32 :: o33 :: o34 :: o35 :: o36 :: o37 :: o38 :: o39 :: o40 :: o41 :: o42 :: r).toArray S o42 v a)
    (h : wpAnyH P md (o0 :: o1 :: o2 :: o3 :: o4 :: o5 :: o6 :: o7 :: o8 :: o9 :: o10 :: o11 :: o12 :: o13 :: o14 :: o15 :: o16 :: o17 :: o18 :: o19 :: o20 :: o21 :: o22 :: o23 :: o24 :: o25 :: o26 :: o27 :: o28 :: o29 :: o30 :: o31 :: o32 :: o33 :: o34 :: o35 :: o36 :: o37 :: o38 :: o39 :: o40 :: o41 :: o42 :: r).toArray Q S fuel (listed.setIfInBounds 42 true) (a.put o42.dst v) w) : wpAnyH P md (o0 :: o1 :: o2 :: o3 :: o4 :: o5 :: o6 :: o7 :: o8 :: o9 :: o10 :: o11 :: o12 :: o13 :: o14 :: o15 :: o16 :: o17 :: o18 :: o19 :: o20 :: o21 :: o22 :: o23 :: o24 :: o25 :: o26 :: o27 :: o28 :: o29 :: o30 :: o31 :: o32 :: o33 :: o34 :: o35 :: o36 :: o37 :: o38 :: o39 :: o40 :: o41 :: o42 :: r).toArray Q S (fuel + 1) listed a w :=
  wpAnyH_take rfl hs hf hr hQ hy hS h
theorem rd42 {P : Program} {md : Region.Mode} {Q : Exit → Act → World → Prop} {S : World → Prop} {o0 o1 o2 o3 o4 o5 o6 o7 o8 o9 o10 o11 o12 o13 o14 o15 o16 o17 o18 o19 o20 o21 o22 o23 o24 o25 o26 o27 o28 o29 o30 o31 o32 o33 o34 o35 o36 o37 o38 o39 o40 o41 o42 : Oper} {r : List Oper} {fuel : Nat} {listed : Array Bool} {a : Act} {w : World} {rs : List Nat}
    (h : ∀ K' : Act → World → Prop, Shut (∀ a w, S w → (S w → wpAnyH P md (o0 :: o1 :: o2 :: o3 :: o4 :: o5 :: o6 :: o7 :: o8 :: o9 :: o10 :: o11 :: o12 :: o13 :: o14 :: o15 :: o16 :: o17 :: o18 :: o19 :: o20 :: o21 :: o22 :: o23 :: o24 :: o25 :: o26 :: o27 :: o28 :: o29 :: o30 :: o31 :: o32 :: o33 :: o34 :: o35 :: o36 :: o37 :: o38 :: o39 :: o40 :: o41 :: o42 :: r).toArray Q S fuel (listed.setIfInBounds 42 true) a w) → K' a w) → if Region.wanted o42 (yielded (o0 :: o1 :: o2 :: o3 :: o4 :: o5 :: o6 :: o7 :: o8 :: o9 :: o10 :: o11 :: o12 :: o13 :: o14 :: o15 :: o16 :: o17 :: o18 :: o19 :: o20 :: o21 :: o22 :: o23 :: o24 :: o25 :: o26 :: o27 :: o28 :: o29 :: o30 :: o31 :: o32 :: o33 :: o34 :: o35 :: o36 :: o37 :: o38 :: o39 :: o40 :: o41 :: o42 :: r).toArray a.tmps) = true then Oper.wp P o42 a w K' Q else K' (a.put o42.dst undef) w)
    (hs : AllReadyH P md (o0 :: o1 :: o2 :: o3 :: o4 :: o5 :: o6 :: o7 :: o8 :: o9 :: o10 :: o11 :: o12 :: o13 :: o14 :: o15 :: o16 :: o17 :: o18 :: o19 :: o20 :: o21 :: o22 :: o23 :: o24 :: o25 :: o26 :: o27 :: o28 :: o29 :: o30 :: o31 :: o32 :: o33 :: o34 :: o35 :: o36 :: o37 :: o38 :: o39 :: o40 :: o41 :: o42 :: r).toArray Q S fuel listed a w rs) : AllReadyH P md (o0 :: o1 :: o2 :: o3 :: o4 :: o5 :: o6 :: o7 :: o8 :: o9 :: o10 :: o11 :: o12 :: o13 :: o14 :: o15 :: o16 :: o17 :: o18 :: o19 :: o20 :: o21 :: o22 :: o23 :: o24 :: o25 :: o26 :: o27 :: o28 :: o29 :: o30 :: o31 :: o32 :: o33 :: o34 :: o35 :: o36 :: o37 :: o38 :: o39 :: o40 :: o41 :: o42 :: r).toArray Q S fuel listed a w (42 :: rs) :=
  AllReadyH.cons rfl h hs
theorem tk43 {P : Program} {md : Region.Mode} {Q : Exit → Act → World → Prop} {S : World → Prop} {o0 o1 o2 o3 o4 o5 o6 o7 o8 o9 o10 o11 o12 o13 o14 o15 o16 o17 o18 o19 o20 o21 o22 o23 o24 o25 o26 o27 o28 o29 o30 o31 o32 o33 o34 o35 o36 o37 o38 o39 o40 o41 o42 o43 : Oper} {r : List Oper} {v : Value} {fuel : Nat} {listed : Array Bool} {a : Act} {w : World}
    (hs : Region.noSelect (o0 :: o1 :: o2 :: o3 :: o4 :: o5 :: o6 :: o7 :: o8 :: o9 :: o10 :: o11 :: o12 :: o13 :: o14 :: o15 :: o16 :: o17 :: o18 :: o19 :: o20 :: o21 :: o22 :: o23 :: o24 :: o25 :: o26 :: o27 :: o28 :: o29 :: o30 :: o31 :: o32 :: o33 :: o34 :: o35 :: o36 :: o37 :: o38 :: o39 :: o40 :: o41 :: o42 :: o43 :: r).toArray = true) (hf : Region.free md (o0 :: o1 :: o2 :: o3 :: o4 :: o5 :: o6 :: o7 :: o8 :: o9 :: o10 :: o11 :: o12 :: o13 :: o14 :: o15 :: o16 :: o17 :: o18 :: o19 :: o20 :: o21 :: o22 :: o23 :: o24 :: o25 :: o26 :: o27 :: o28 :: o29 :: o30 :: o31 :: o32 :: o33 :: o34 :: o35 :: o36 :: o37 :: o38 :: o39 :: o40 :: o41 :: o42 :: o43 :: r).toArray listed 43 = true) (hr : (Region.ready md (o0 :: o1 :: o2 :: o3 :: o4 :: o5 :: o6 :: o7 :: o8 :: o9 :: o10 :: o11 :: o12 :: o13 :: o14 :: o15 :: o16 :: o17 :: o18 :: o19 :: o20 :: o21 :: o22 :: o23 :: o24 :: o25 :: o26 :: o27 :: o28 :: o29 :: o30 :: o31 :: o32 :: o33 :: o34 :: o35 :: o36 :: o37 :: o38 :: o39 :: o40 :: o41 :: o42 :: o43 :: r).toArray listed).contains 43 = true)
    (hQ : ∀ c a w, Q (.panic c) (a.put o43.dst v) w → Q (.panic c) a w) (hS : S w) (hy : YieldsIf P (o0 :: o1 :: o2 :: o3 :: o4 :: o5 :: o6 :: o7 :: o8 :: o9 :: o10 :: o11 :: o12 :: o13 :: o14 :: o15 :: o16 :: o17 :: o18 :: o19 :: o20 :: o21 :: o22 :: o23 :: o24 :: o25 :: o26 :: o27 :: o28 :: o29 :: o30 :: o31 :: o32 :: o33 :: o34 :: o35 :: o36 :: o37 :: o38 :: o39 :: o40 :: o41 :: o42 :: o43 :: r).toArray S o43 v a)
    (h : wpAnyH P md (o0 :: o1 :: o2 :: o3 :: o4 :: o5 :: o6 :: o7 :: o8 :: o9 :: o10 :: o11 :: o12 :: o13 :: o14 :: o15 :: o16 :: o17 :: o18 :: o19 :: o20 :: o21 :: o22 :: o23 :: o24 :: o25 :: o26 :: o27 :: o28 :: o29 :: o30 :: o31 :: o32 :: o33 :: o34 :: o35 :: o36 :: o37 :: o38 :: o39 :: o40 :: o41 :: o42 :: o43 :: r).toArray Q S fuel (listed.setIfInBounds 43 true) (a.put o43.dst v) w) : wpAnyH P md (o0 :: o1 :: o2 :: o3 :: o4 :: o5 :: o6 :: o7 :: o8 :: o9 :: o10 :: o11 :: o12 :: o13 :: o14 :: o15 :: o16 :: o17 :: o18 :: o19 :: o20 :: o21 :: o22 :: o23 :: o24 :: o25 :: o26 :: o27 :: o28 :: o29 :: o30 :: o31 :: o32 :: o33 :: o34 :: o35 :: o36 :: o37 :: o38 :: o39 :: o40 :: o41 :: o42 :: o43 :: r).toArray Q S (fuel + 1) listed a w :=
  wpAnyH_take rfl hs hf hr hQ hy hS h
theorem rd43 {P : Program} {md : Region.Mode} {Q : Exit → Act → World → Prop} {S : World → Prop} {o0 o1 o2 o3 o4 o5 o6 o7 o8 o9 o10 o11 o12 o13 o14 o15 o16 o17 o18 o19 o20 o21 o22 o23 o24 o25 o26 o27 o28 o29 o30 o31 o32 o33 o34 o35 o36 o37 o38 o39 o40 o41 o42 o43 : Oper} {r : List Oper} {fuel : Nat} {listed : Array Bool} {a : Act} {w : World} {rs : List Nat}
    (h : ∀ K' : Act → World → Prop, Shut (∀ a w, S w → (S w → wpAnyH P md (o0 :: o1 :: o2 :: o3 :: o4 :: o5 :: o6 :: o7 :: o8 :: o9 :: o10 :: o11 :: o12 :: o13 :: o14 :: o15 :: o16 :: o17 :: o18 :: o19 :: o20 :: o21 :: o22 :: o23 :: o24 :: o25 :: o26 :: o27 :: o28 :: o29 :: o30 :: o31 :: o32 :: o33 :: o34 :: o35 :: o36 :: o37 :: o38 :: o39 :: o40 :: o41 :: o42 :: o43 :: r).toArray Q S fuel (listed.setIfInBounds 43 true) a w) → K' a w) → if Region.wanted o43 (yielded (o0 :: o1 :: o2 :: o3 :: o4 :: o5 :: o6 :: o7 :: o8 :: o9 :: o10 :: o11 :: o12 :: o13 :: o14 :: o15 :: o16 :: o17 :: o18 :: o19 :: o20 :: o21 :: o22 :: o23 :: o24 :: o25 :: o26 :: o27 :: o28 :: o29 :: o30 :: o31 :: o32 :: o33 :: o34 :: o35 :: o36 :: o37 :: o38 :: o39 :: o40 :: o41 :: o42 :: o43 :: r).toArray a.tmps) = true then Oper.wp P o43 a w K' Q else K' (a.put o43.dst undef) w)
    (hs : AllReadyH P md (o0 :: o1 :: o2 :: o3 :: o4 :: o5 :: o6 :: o7 :: o8 :: o9 :: o10 :: o11 :: o12 :: o13 :: o14 :: o15 :: o16 :: o17 :: o18 :: o19 :: o20 :: o21 :: o22 :: o23 :: o24 :: o25 :: o26 :: o27 :: o28 :: o29 :: o30 :: o31 :: o32 :: o33 :: o34 :: o35 :: o36 :: o37 :: o38 :: o39 :: o40 :: o41 :: o42 :: o43 :: r).toArray Q S fuel listed a w rs) : AllReadyH P md (o0 :: o1 :: o2 :: o3 :: o4 :: o5 :: o6 :: o7 :: o8 :: o9 :: o10 :: o11 :: o12 :: o13 :: o14 :: o15 :: o16 :: o17 :: o18 :: o19 :: o20 :: o21 :: o22 :: o23 :: o24 :: o25 :: o26 :: o27 :: o28 :: o29 :: o30 :: o31 :: o32 :: o33 :: o34 :: o35 :: o36 :: o37 :: o38 :: o39 :: o40 :: o41 :: o42 :: o43 :: r).toArray Q S fuel listed a w (43 :: rs) :=
  AllReadyH.cons rfl h hs
theorem tk44 {P : Program} {md : Region.Mode} {Q : Exit → Act → World → Prop} {S : World → Prop} {o0 o1 o2 o3 o4 o5 o6 o7 o8 o9 o10 o11 o12 o13 o14 o15 o16 o17 o18 o19 o20 o21 o22 o23 o24 o25 o26 o27 o28 o29 o30 o31 o32 o33 o34 o35 o36 o37 o38 o39 o40 o41 o42 o43 o44 : Oper} {r : List Oper} {v : Value} {fuel : Nat} {listed : Array Bool} {a : Act} {w : World}
    (hs : Region.noSelect (o0 :: o1 :: o2 :: o3 :: o4 :: o5 :: o6 :: o7 :: o8 :: o9 :: o10 :: o11 :: o12 :: o13 :: o14 :: o15 :: o16 :: o17 :: o18 :: o19 :: o20 :: o21 :: o22 :: o23 :: o24 :: o25 :: o26 :: o27 :: o28 :: o29 :: o30 :: o31 :: o32 :: o33 :: o34 :: o35 :: o36 :: o37 :: o38 :: o39 :: o40 :: o41 :: o42 :: o43 :: o44 :: r).toArray = true) (hf : Region.free md (o0 :: o1 :: o2 :: o3 :: o4 :: o5 :: o6 :: o7 :: o8 :: o9 :: o10 :: o11 :: o12 :: o13 :: o14 :: o15 :: o16 :: o17 :: o18 :: o19 :: o20 :: o21 :: o22 :: o23 :: o24 :: o25 :: o26 :: o27 :: o28 :: o29 :: o30 :: o31 :: o32 :: o33 :: o34 :: o35 :: o36 :: o37 :: o38 :: o39 :: o40 :: o41 :: o42 :: o43 :: o44 :: r).toArray listed 44 = true) (hr : (Region.ready md (o0 :: o1 :: o2 :: o3 :: o4 :: o5 :: o6 :: o7 :: o8 :: o9 :: o10 :: o11 :: o12 :: o13 :: o14 :: o15 :: o16 :: o17 :: o18 :: o19 :: o20 :: o21 :: o22 :: o23 :: o24 :: o25 :: o26 :: o27 :: o28 :: o29 :: o30 :: o31 :: o32 :: o33 :: o34 :: o35 :: o36 :: o37 :: o38 :: o39 :: o40 :: o41 :: o42 :: o43 :: o44 :: r).toArray listed).contains 44 = true)
    (hQ : ∀ c a w, Q (.panic c) (a.put o44.dst v) w → Q (.panic c) a w) (hS : S w) (hy : YieldsIf P (o0 :: o1 :: o2 :: o3 :: o4 :: o5 :: o6 :: o7 :: o8 :: o9 :: o10 :: o11 :: o12 :: o13 :: o14 :: o15 :: o16 :: o17 :: o18 :: o19 :: o20 :: o21 :: o22 :: o23 :: o24 :: o25 :: o26 :: o27 :: o28 :: o29 :: o30 :: o31 :: o32 :: o33 :: o34 :: o35 :: o36 :: o37 :: o38 :: o39 :: o40 :: o41 :: o42 :: o43 :: o44 :: r).toArray S o44 v a)
    (h : wpAnyH P md (o0 :: o1 :: o2 :: o3 :: o4 :: o5 :: o6 :: o7 :: o8 :: o9 :: o10 :: o11 :: o12 :: o13 :: o14 :: o15 :: o16 :: o17 :: o18 :: o19 :: o20 :: o21 :: o22 :: o23 :: o24 :: o25 :: o26 :: o27 :: o28 :: o29 :: o30 :: o31 :: o32 :: o33 :: o34 :: o35 :: o36 :: o37 :: o38 :: o39 :: o40 :: o41 :: o42 :: o43 :: o44 :: r).toArray Q S fuel (listed.setIfInBounds 44 true) (a.put o44.dst v) w) : wpAnyH P md (o0 :: o1 :: o2 :: o3 :: o4 :: o5 :: o6 :: o7 :: o8 :: o9 :: o10 :: o11 :: o12 :: o13 :: o14 :: o15 :: o16 :: o17 :: o18 :: o19 :: o20 :: o21 :: o22 :: o23 :: o24 :: o25 :: o26 :: o27 :: o28 :: o29 :: o30 :: o31 :: o32 :: o33 :: o34 :: o35 :: o36 :: o37 :: o38 :: o39 :: o40 :: o41 :: o42 :: o43 :: o44 :: r).toArray Q S (fuel + 1) listed a w :=
  wpAnyH_take rfl hs hf hr hQ hy hS h
theorem rd44 {P : Program} {md : Region.Mode} {Q : Exit → Act → World → Prop} {S : World → Prop} {o0 o1 o2 o3 o4 o5 o6 o7 o8 o9 o10 o11 o12 o13 o14 o15 o16 o17 o18 o19 o20 o21 o22 o23 o24 o25 o26 o27 o28 o29 o30 o31 o32 o33 o34 o35 o36 o37 o38 o39 o40 o41 o42 o43 o44 : Oper} {r : List Oper} {fuel : Nat} {listed : Array Bool} {a : Act} {w : World} {rs : List Nat}
    (h : ∀ K' : Act → World → Prop, Shut (∀ a w, S w → (S w → wpAnyH P md (o0 :: o1 :: o2 :: o3 :: o4 :: o5 :: o6 :: o7 :: o8 :: o9 :: o10 :: o11 :: o12 :: o13 :: o14 :: o15 :: o16 :: o17 :: o18 :: o19 :: o20 :: o21 :: o22 :: o23 :: o24 :: o25 :: o26 :: o27 :: o28 :: o29 :: o30 :: o31 :: o32 :: o33 :: o34 :: o35 :: o36 :: o37 :: o38 :: o39 :: o40 :: o41 :: o42 :: o43 :: o44 :: r).toArray Q S fuel (listed.setIfInBounds 44 true) a w) → K' a w) → if Region.wanted o44 (yielded (o0 :: o1 :: o2 :: o3 :: o4 :: o5 :: o6 :: o7 :: o8 :: o9 :: o10 :: o11 :: o12 :: o13 :: o14 :: o15 :: o16 :: o17 :: o18 :: o19 :: o20 :: o21 :: o22 :: o23 :: o24 :: o25 :: o26 :: o27 :: o28 :: o29 :: o30 :: o31 :: o32 :: o33 :: o34 :: o35 :: o36 :: o37 :: o38 :: o39 :: o40 :: o41 :: o42 :: o43 :: o44 :: r).toArray a.tmps) = true then Oper.wp P o44 a w K' Q else K' (a.put o44.dst undef) w)
    (hs : AllReadyH P md (o0 :: o1 :: o2 :: o3 :: o4 :: o5 :: o6 :: o7 :: o8 :: o9 :: o10 :: o11 :: o12 :: o13 :: o14 :: o15 :: o16 :: o17 :: o18 :: o19 :: o20 :: o21 :: o22 :: o23 :: o24 :: o25 :: o26 :: o27 :: o28 :: o29 :: o30 :: o31 :: o32 :: o33 :: o34 :: o35 :: o36 :: o37 :: o38 :: o39 :: o40 :: o41 :: o42 :: o43 :: o44 :: r).toArray Q S fuel listed a w rs) : AllReadyH P md (o0 :: o1 :: o2 :: o3 :: o4 :: o5 :: o6 :: o7 :: o8 :: o9 :: o10 :: o11 :: o12 :: o13 :: o14 :: o15 :: o16 :: o17 :: o18 :: o19 :: o20 :: o21 :: o22 :: o23 :: o24 :: o25 :: o26 :: o27 :: o28 :: o29 :: o30 :: o31 :: o32 :: o33 :: o34 :: o35 :: o36 :: o37 :: o38 :: o39 :: o40 :: o41 :: o42 :: o43 :: o44 :: r).toArray Q S fuel listed a w (44 :: rs) :=
  AllReadyH.cons rfl h hs
theorem tk45 {P : Program} {md : Region.Mode} {Q : Exit → Act → World → Prop} {S : World → Prop} {o0 o1 o2 o3 o4 o5 o6 o7 o8 o9 o10 o11 o12 o13 o14 o15 o16 o17 o18 o19 o20 o21 o22 o23 o24 o25 o26 o27 o28 o29 o30 o31 o32 o33 o34 o35 o36 o37 o38 o39 o40 o41 o42 o43 o44 o45 : Oper} {r : List Oper} {v : Value} {fuel : Nat} {listed : Array Bool} {a : Act} {w : World}
    (hs : Region.noSelect (o0 :: o1 :: o2 :: o3 :: o4 :: o5 :: o6 :: o7 :: o8 :: o9 :: o10 :: o11 :: o12 :: o13 :: o14 :: o15 :: o16 :: o17 :: o18 :: o19 :: o20 :: o21 :: o22 :: o23 :: o24 :: o25 :: o26 :: o27 :: o28 :: o29 :: o30 :: o31 :: o32 :: o33 :: o34 :: o35 :: o36 :: o37 :: o38 :: o39 :: o40 :: o41 :: o42 :: o43 :: o44 :: o45 :: r).toArray = true) (hf : Region.free md (o0 :: o1 :: o2 :: o3 :: o4 :: o5 :: o6 :: o7 :: o8 :: o9 :: o10 :: o11 :: o12 :: o13 :: o14 :: o15 :: o16 :: o17 :: o18 :: o19 :: o20 :: o21 :: o22 :: o23 :: o24 :: o25 :: o26 :: o27 :: o28 :: o29 :: o30 :: o31 :: o32 :: o33 :: o34 :: o35 :: o36 :: o37 :: o38 :: o39 :: o40 :: o41 :: o42 :: o43 :: o44 :: o45 :: r).toArray listed 45 = true) (hr : (Region.ready md (o0 :: o1 :: o2 :: o3 :: o4 :: o5 :: o6 :: o7 :: o8 :: o9 :: o10 :: o11 :: o12 :: o13 :: o14 :: o15 :: o16 :: o17 :: o18 :: o19 :: o20 :: o21 :: o22 :: o23 :: o24 :: o25 :: o26 :: o27 :: o28 :: o29 :: o30 :: o31 :: o32 :: o33 :: o34 :: o35 :: o36 :: o37 :: o38 :: o39 :: o40 :: o41 :: o42 :: o43 :: o44 :: o45 :: r).toArray listed).contains 45 = true)
    (hQ : ∀ c a w, Q (.panic c) (a.put o45.dst v) w → Q (.panic c) a w) (hS : S w) (hy : YieldsIf P (o0 :: o1 :: o2 :: o3 :: o4 :: o5 :: o6 :: o7 :: o8 :: o9 :: o10 :: o11 :: o12 :: o13 :: o14 :: o15 :: o16 :: o17 :: o18 :: o19 :: o20 :: o21 :: o22 :: o23 :: o24 :: o25 :: o26 :: o27 :: o28 :: o29 :: o30 :: o31 :: o32 :: o33 :: o34 :: o35 :: o36 :: o37 :: o38 :: o39 :: o40 :: o41 :: o42 :: o43 :: o44 :: o45 :: r).toArray S o45 v a)
    (h : wpAnyH P md (o0 :: o1 :: o2 :: o3 :: o4 :: o5 :: o6 :: o7 :: o8 :: o9 :: o10 :: o11 :: o12 :: o13 :: o14 :: o15 :: o16 :: o17 :: o18 :: o19 :: o20 :: o21 :: o22 :: o23 :: o24 :: o25 :: o26 :: o27 :: o28 :: o29 :: o30 :: o31 :: o32 :: o33 :: o34 :: o35 :: o36 :: o37 :: o38 :: o39 :: o40 :: o41 :: o42 :: o43 :: o44 :: o45 :: r).toArray Q S fuel (listed.setIfInBounds 45 true) (a.put o45.dst v) w) : wpAnyH P md (o0 :: o1 :: o2 :: o3 :: o4 :: o5 :: o6 :: o7 :: o8 :: o9 :: o10 :: o11 :: o12 :: o13 :: o14 :: o15 :: o16 :: o17 :: o18 :: o19 :: o20 :: o21 :: o22 :: o23 :: o24 :: o25 :: o26 :: o27 :: o28 :: o29 :: o30 :: o31 :: o32 :: o33 :: o34 :: o35 :: o36 :: o37 :: o38 :: o39 :: o40 :: o41 :: o42 :: o43 :: o44 :: o45 :: r).toArray Q S (fuel + 1) listed a w :=
  wpAnyH_take rfl hs hf hr hQ hy hS h
theorem rd45 {P : Program} {md : Region.Mode} {Q : Exit → Act → World → Prop} {S : World → Prop} {o0 o1 o2 o3 o4 o5 o6 o7 o8 o9 o10 o11 o12 o13 o14 o15 o16 o17 o18 o19 o20 o21 o22 o23 o24 o25 o26 o27 o28 o29 o30 o31 o32 o33 o34 o35 o36 o37 o38 o39 o40 o41 o42 o43 o44 o45 : Oper} {r : List Oper} {fuel : Nat} {listed : Array Bool} {a : Act} {w : World} {rs : List Nat}
    (h : ∀ K' : Act → World → Prop, Shut (∀ a w, S w → (S w → wpAnyH P md (o0 :: o1 :: o2 :: o3 :: o4 :: o5 :: o6 :: o7 :: o8 :: o9 :: o10 :: o11 :: o12 :: o13 :: o14 :: o15 :: o16 :: o17 :: o18 :: o19 :: o20 :: o21 :: o22 :: o23 :: o24 :: o25 :: o26 :: o27 :: o28 :: o29 :: o30 :: o31 :: o32 :: o33 :: o34 :: o35 :: o36 :: o37 :: o38 :: o39 :: o40 :: o41 :: o42 :: o43 :: o44 :: o45 :: r).toArray Q S fuel (listed.setIfInBounds 45 true) a w) → K' a w) → if Region.wanted o45 (yielded (o0 :: o1 :: o2 :: o3 :: o4 :: o5 :: o6 :: o7 :: o8 :: o9 :: o10 :: o11 :: o12 :: o13 :: o14 :: o15 :: o16 :: o17 :: o18 :: o19 :: o20 :: o21 :: o22 :: o23 :: o24 :: o25 :: o26 :: o27 :: o28 :: o29 :: o30 :: o31 :: o32 :: o33 :: o34 :: o35 :: o36 :: o37 :: o38 :: o39 :: o40 :: o41 :: o42 :: o43 :: o44 :: o45 :: r).toArray a.tmps) = true then Oper.wp P o45 a w K' Q else K' (a.put o45.dst undef) w)
    (hs : AllReadyH P md (o0 :: o1 :: o2 :: o3 :: o4 :: o5 :: o6 :: o7 :: o8 :: o9 :: o10 :: o11 :: o12 :: o13 :: o14 :: o15 :: o16 :: o17 :: o18 :: o19 :: o20 :: o21 :: o22 :: o23 :: o24 :: o25 :: o26 :: o27 :: o28 :: o29 :: o30 :: o31 :: o32 :: o33 :: o34 :: o35 :: o36 :: o37 :: o38 :: o39 :: o40 :: o41 :: o42 :: o43 :: o44 :: o45 :: r).toArray Q S fuel listed a w rs) : AllReadyH P md (o0 :: o1 :: o2 :: o3 :: o4 :: o5 :: o6 :: o7 :: o8 :: o9 :: o10 :: o11 :: o12 :: o13 :: o14 :: o15 :: o16 :: o17 :: o18 :: o19 :: o20 :: o21 :: o22 :: o23 :: o24 :: o25 :: o26 :: o27 :: o28 :: o29 :: o30 :: o31 :: o32 :: o33 :: o34 :: o35 :: o36 :: o37 :: o38 :: o39 :: o40 :: o41 :: o42 :: o43 :: o44 :: o45 :: r).toArray Q S fuel listed a w (45 :: rs) :=
  AllReadyH.cons rfl h hs
/-- From here on more is held of every world. -/
theorem hand_more {P : Program} {md : Region.Mode} {ops : Array Oper} {Q : Exit → Act → World → Prop} {S S' : World → Prop} (h : ∀ w, S' w → S w) : ∀ (fuel : Nat) (listed : Array Bool) (a : Act) (w : World), wpAnyH P md ops Q S' fuel listed a w → wpAnyH P md ops Q S fuel listed a w
  | 0, _, _, _, hh => hh
  | fuel + 1, _, _, _, hh => ⟨hh.1, fun i hi => wpOp_mono (fun a' w' h' => ⟨h _ h'.1, hand_more h fuel _ a' w' h'.2⟩) (hh.2 i hi)⟩
end Go.Proofs.YtncnilplmklccaaGreat

/- Plain arithmetic of rows of digits of 16 bits, the lowest first: no Go in sight. -/
namespace Go.Proofs.YtncnilplmklccaaGreat

/-- The number that a row of digits says. -/
def val : List Int → Int
  | [] => 0
  | d :: r => d + 65536 * val r
/-- Each digit has 16 bits. -/
def Ok (zs : List Int) : Prop := ∀ d ∈ zs, 0 ≤ d ∧ d < 65536
/-- No nought at the end. -/
def Trimmed (zs : List Int) : Prop := zs ≠ [] → zs.getD (zs.length - 1) 0 ≠ 0
/-- The weight of a place. -/
def pw (k : Nat) : Int := (65536 : Int) ^ k
theorem pw_zero : pw 0 = 1 := rfl
theorem pw_succ (k : Nat) : pw (k + 1) = pw k * 65536 := Int.pow_succ _ _
theorem pw_pos (k : Nat) : 0 < pw k := Int.pow_pos (by decide)
theorem pw_add (a b : Nat) : pw (a + b) = pw a * pw b := Int.pow_add _ _ _
theorem pw_mono {a b : Nat} (h : a ≤ b) : pw a ≤ pw b := by
  obtain ⟨c, rfl⟩ := Nat.le.dest h
  rw [pw_add]
  have h1 := pw_pos a
  have h2 := pw_pos c
  have := Int.mul_le_mul_of_nonneg_left (show 1 ≤ pw c by omega) (Int.le_of_lt h1)
  omega

theorem Ok.nil : Ok [] := fun _ h => by cases h
theorem Ok.cons {d : Int} {r : List Int} (h : Ok (d :: r)) : (0 ≤ d ∧ d < 65536) ∧ Ok r := ⟨h d (by simp), fun x hx => h x (by simp [hx])⟩
theorem Ok.mk {d : Int} {r : List Int} (h : 0 ≤ d ∧ d < 65536) (h2 : Ok r) : Ok (d :: r) := by
  intro x hx
  rcases List.mem_cons.1 hx with rfl | hx
  · exact h
  · exact h2 x hx
theorem Ok.append {xs ys : List Int} (h : Ok xs) (h2 : Ok ys) : Ok (xs ++ ys) := by
  intro x hx
  rcases List.mem_append.1 hx with hx | hx
  · exact h x hx
  · exact h2 x hx
theorem Ok.one {d : Int} (h : 0 ≤ d ∧ d < 65536) : Ok [d] := Ok.mk h Ok.nil
theorem Ok.take {zs : List Int} (h : Ok zs) (k : Nat) : Ok (zs.take k) := fun x hx => h x (List.mem_of_mem_take hx)
theorem Ok.getD {zs : List Int} (h : Ok zs) (j : Nat) : 0 ≤ zs.getD j 0 ∧ zs.getD j 0 < 65536 := by
  rw [List.getD_eq_getElem?_getD]
  by_cases hj : j < zs.length
  · simp only [List.getElem?_eq_getElem hj, Option.getD_some]
    exact h _ (List.getElem_mem hj)
  · rw [List.getElem?_eq_none (by omega)]; decide
theorem Ok.set {zs : List Int} (h : Ok zs) (j : Nat) {d : Int} (hd : 0 ≤ d ∧ d < 65536) : Ok (zs.set j d) := by
  intro x hx
  rcases List.mem_or_eq_of_mem_set hx with hx | rfl
  · exact h x hx
  · exact hd
theorem Ok.replicate (n : Nat) : Ok (List.replicate n 0) := by
  intro x hx
  rw [List.eq_of_mem_replicate hx]; decide

theorem val_nonneg {zs : List Int} (h : Ok zs) : 0 ≤ val zs := by
  induction zs with
  | nil => simp [val]
  | cons d r ih => obtain ⟨a, b⟩ := h.cons; have := ih b; simp only [val]; omega
theorem val_snoc (zs : List Int) (d : Int) : val (zs ++ [d]) = val zs + d * pw zs.length := by
  induction zs with
  | nil => simp [val, pw_zero]
  | cons x r ih =>
    simp only [List.cons_append, val, ih, List.length_cons, pw_succ]
    rw [Int.mul_add, Int.mul_comm (pw r.length) 65536, ← Int.mul_assoc d, Int.mul_comm d 65536, Int.mul_assoc]
    omega
theorem val_lt {zs : List Int} (h : Ok zs) : val zs < pw zs.length := by
  induction zs with
  | nil => simp [val, pw_zero]
  | cons x r ih =>
    obtain ⟨a, b⟩ := h.cons
    have := ih b
    simp only [val, List.length_cons, pw_succ]
    omega
theorem val_replicate (n : Nat) : val (List.replicate n 0) = 0 := by
  induction n with
  | zero => rfl
  | succ n ih => rw [List.replicate_succ]; simp only [val, ih]; rfl
theorem take_snoc (zs : List Int) (k : Nat) (h : k < zs.length) : zs.take (k + 1) = zs.take k ++ [zs.getD k 0] := by
  rw [List.take_succ_eq_append_getElem h, List.getD_eq_getElem?_getD, List.getElem?_eq_getElem h]; rfl
theorem val_take (zs : List Int) (k : Nat) : val (zs.take (k + 1)) = val (zs.take k) + zs.getD k 0 * pw k := by
  by_cases h : k < zs.length
  · rw [take_snoc zs k h, val_snoc, List.length_take, Nat.min_eq_left (by omega)]
  · rw [List.take_of_length_le (by omega), List.take_of_length_le (by omega), List.getD_eq_getElem?_getD, List.getElem?_eq_none (by omega)]
    simp
theorem val_take_all (zs : List Int) (k : Nat) (h : zs.length ≤ k) : val (zs.take k) = val zs := by rw [List.take_of_length_le h]
theorem val_set (zs : List Int) (j : Nat) (d : Int) (h : j < zs.length) : val (zs.set j d) = val zs + (d - zs.getD j 0) * pw j := by
  induction zs generalizing j with
  | nil => simp at h
  | cons x r ih =>
    cases j with
    | zero => simp only [List.set_cons_zero, val, pw_zero, List.getD_cons_zero]; omega
    | succ j =>
      simp only [List.set_cons_succ, val, List.getD_cons_succ, pw_succ]
      rw [ih j (by simpa using h), Int.mul_add, Int.mul_comm (pw j) 65536, ← Int.mul_assoc (d - r.getD j 0), Int.mul_comm (d - r.getD j 0) 65536, Int.mul_assoc]
      omega
theorem val_take_lt {zs : List Int} (h : Ok zs) (k : Nat) : val (zs.take k) < pw k := by
  have h1 := val_lt (h.take k)
  have h2 := pw_mono (show (zs.take k).length ≤ k from List.length_take_le _ _)
  omega
theorem val_take_le {zs : List Int} (h : Ok zs) (k : Nat) : val (zs.take k) ≤ val (zs.take (k + 1)) := by
  rw [val_take]
  have := Int.mul_nonneg (h.getD k).1 (Int.le_of_lt (pw_pos k))
  omega

/-- A trimmed row is at least its last place's weight. -/
theorem trimmed_ge {zs : List Int} (h : Ok zs) (ht : Trimmed zs) (hn : zs ≠ []) : pw (zs.length - 1) ≤ val zs := by
  have hl : 0 < zs.length := List.length_pos_iff.2 hn
  have e := val_take zs (zs.length - 1)
  rw [show zs.length - 1 + 1 = zs.length by omega, List.take_length] at e
  have h0 := val_nonneg (h.take (zs.length - 1))
  have h1 := ht hn
  have h2 := (h.getD (zs.length - 1)).1
  have h3 := Int.mul_le_mul_of_nonneg_right (show 1 ≤ zs.getD (zs.length - 1) 0 by omega) (Int.le_of_lt (pw_pos (zs.length - 1)))
  omega
theorem trimmed_len {zs ys : List Int} (h : Ok zs) (ht : Trimmed zs) (hy : Ok ys) (hle : val zs ≤ val ys) : zs.length ≤ ys.length := by
  by_cases hn : zs = []
  · subst hn; simp
  · have h1 := trimmed_ge h ht hn
    have h2 := val_lt hy
    have hl : 0 < zs.length := List.length_pos_iff.2 hn
    by_cases hc : zs.length ≤ ys.length
    · exact hc
    · have := pw_mono (show ys.length ≤ zs.length - 1 by omega)
      omega
theorem trimmed_short {zs : List Int} (h : Ok zs) (ht : Trimmed zs) (k : Nat) (hlt : val zs < pw k) : zs.length ≤ k := by
  by_cases hn : zs = []
  · subst hn; simp
  · have h1 := trimmed_ge h ht hn
    have hl : 0 < zs.length := List.length_pos_iff.2 hn
    by_cases hc : zs.length ≤ k
    · exact hc
    · have := pw_mono (show k ≤ zs.length - 1 by omega)
      omega
theorem long_val {zs : List Int} (h : Ok zs) (ht : Trimmed zs) (k : Nat) (hk : k < zs.length) : pw k ≤ val zs := by
  have hn : zs ≠ [] := by intro e; subst e; simp at hk
  have h1 := trimmed_ge h ht hn
  have := pw_mono (show k ≤ zs.length - 1 by omega)
  omega
/-- Behind the last place that isn't 0 there is nothing. -/
theorem val_dropped {zs : List Int} (n : Nat) (hz : ∀ j, n ≤ j → zs.getD j 0 = 0) : val (zs.take n) = val zs := by
  have : ∀ k, val (zs.take (n + k)) = val (zs.take n) := by
    intro k
    induction k with
    | zero => rfl
    | succ k ih => rw [← Nat.add_assoc, val_take, hz (n + k) (by omega), ih]; simp
  have e := this zs.length
  rw [List.take_of_length_le (by omega : zs.length ≤ n + zs.length)] at e
  exact e.symm
end Go.Proofs.YtncnilplmklccaaGreat

/- Contracts of package sponsionref01's functions over this translation: rows of digits in memory, and the numbers that they say. -/
namespace Go.Proofs.YtncnilplmklccaaGreat
open Go.RowKit

/-- A slice value that holds the row of digits zs, in the world w. -/
def Digs (w : World) (ao : Option Addr) (n cap : Nat) (zs : List Int) : Prop :=
  n = zs.length ∧ n ≤ cap ∧ n ≤ 1048576 ∧ ((ao = none ∧ zs = [] ∧ cap = 0) ∨ ∃ b off, ao = some ⟨b, off, none⟩ ∧ b < w.heap.size ∧ ∀ j, j < zs.length → w.cell? ⟨b, off + j, none⟩ = some (.int .i64 (zs.getD j 0)))

theorem Digs.below {w w' : World} {ao : Option Addr} {n cap : Nat} {zs : List Int} (h : Digs w ao n cap zs) (hb : Below w.heap.size w w') : Digs w' ao n cap zs := by
  obtain ⟨h1, h2, h3, h4⟩ := h
  refine ⟨h1, h2, h3, ?_⟩
  rcases h4 with h4 | ⟨b, off, e, hb', hc⟩
  · exact .inl h4
  · exact .inr ⟨b, off, e, Nat.lt_of_lt_of_le hb' hb.size, fun j hj => (hb.cell (p := ⟨b, off + j, none⟩) hb').trans (hc j hj)⟩

theorem at_in (b off n cap : Nat) (d : Int) (k : Nat) (w : World) (hk : k < n)
    (hc : w.cell? ⟨b, off + k, none⟩ = some (.int .i64 d)) :
    Calls Tryz.prog 60 #[.slice (some ⟨b, off, none⟩) n cap, .int .i64 k] w fun e w' => e = .returned (.int .i64 d) ∧ w' = w := by
  have hlt : (k : Int) < (n : Int) := by omega
  go_enter Tryz.func60, Tryz.ntmps60
  go_wp2
  go_ret
  exact ⟨rfl, rfl⟩
theorem at_out (ao : Option Addr) (n cap : Nat) (k : Nat) (w : World) (hk : n ≤ k) :
    Calls Tryz.prog 60 #[.slice ao n cap, .int .i64 k] w fun e w' => e = .returned (.int .i64 0) ∧ w' = w := by
  have hlt : ¬ (k : Int) < (n : Int) := by omega
  go_enter Tryz.func60, Tryz.ntmps60
  go_wp2
  go_ret
  exact ⟨rfl, rfl⟩
theorem at_any {ao : Option Addr} {n cap : Nat} {zs : List Int} {w : World} (h : Digs w ao n cap zs) (k : Nat) :
    Calls Tryz.prog 60 #[.slice ao n cap, .int .i64 k] w fun e w' => e = .returned (.int .i64 (zs.getD k 0)) ∧ w' = w := by
  obtain ⟨h1, h2, h3, h4⟩ := h
  by_cases hk : k < zs.length
  · rcases h4 with ⟨_, rfl, _⟩ | ⟨b, off, rfl, hb', hc⟩
    · simp at hk
    · exact at_in b off n cap _ k w (by omega) (hc k hk)
  · have e : zs.getD k 0 = 0 := by rw [List.getD_eq_getElem?_getD, List.getElem?_eq_none (by omega)]; rfl
    rw [e]
    exact at_out ao n cap k w (by omega)

theorem trim_val {zs : List Int} (ho : Ok zs) (k : Nat) (hk : k ≤ zs.length) (hz : ∀ j, k ≤ j → zs.getD j 0 = 0) (ht : 0 < k → zs.getD (k - 1) 0 ≠ 0) :
    Ok (zs.take k) ∧ Trimmed (zs.take k) ∧ val (zs.take k) = val zs ∧ (zs.take k).length = k ∧ ∀ j, j < k → (zs.take k).getD j 0 = zs.getD j 0 := by
  have hl : (zs.take k).length = k := by rw [List.length_take]; omega
  have hg : ∀ j, j < k → (zs.take k).getD j 0 = zs.getD j 0 := by
    intro j hj
    rw [List.getD_eq_getElem?_getD, List.getD_eq_getElem?_getD, List.getElem?_take_of_lt hj]
  refine ⟨ho.take k, ?_, val_dropped k hz, hl, hg⟩
  intro hne
  have : 0 < k := by
    rcases Nat.eq_zero_or_pos k with h | h
    · subst h; simp at hne
    · exact h
  rw [hl, hg (k - 1) (by omega)]
  exact ht this

set_option maxHeartbeats 400000 in
theorem trim_walk (b off n cap : Nat) (d : Nat → Int) (w : World) (h2 : n ≤ cap) (h3 : n ≤ 1048576)
    (hc : ∀ j, j < n → w.cell? ⟨b, off + j, none⟩ = some (.int .i64 (d j))) :
    Calls Tryz.prog 61 #[.slice (some ⟨b, off, none⟩) n cap] w fun e w' => ∃ k : Nat, k ≤ n ∧ e = .returned (.slice (some ⟨b, off, none⟩) k cap) ∧ (∀ j, k ≤ j → j < n → d j = 0) ∧ (0 < k → d (k - 1) ≠ 0) ∧ w' = w := by
  go_enter Tryz.func61, Tryz.ntmps61
  go_wp2
  go_loop [3] (fun t => ∃ k : Nat, k ≤ n ∧ t = .int .i64 k ∧ ∀ j, k ≤ j → j < n → d j = 0) (fun t => (intOf t).toNat)
  case atStart => exact ⟨n, Nat.le_refl _, rfl, fun j h1 h2 => absurd h2 (by omega)⟩
  case round =>
    obtain ⟨k, hk, rfl, hz⟩ := hrel
    have HZ : Hid (∀ j, k ≤ j → j < n → d j = 0) := hz
    clear hz
    by_cases h0 : k = 0
    · subst h0
      clear hc
      go_wp2
      go_ret
      exact ⟨0, Nat.zero_le _, rfl, HZ.out, fun h => absurd h (by omega), rfl⟩
    · obtain ⟨m, rfl⟩ : ∃ m, k = m + 1 := ⟨k - 1, by omega⟩
      have hcm := hc m (by omega)
      have HC : Hid (∀ j, j < n → w.cell? ⟨b, off + j, none⟩ = some (.int .i64 (d j))) := hc
      clear hc h0
      generalize hd : d m = dm at hcm
      by_cases hdm : dm = 0
      · have Hd : Hid (d m = dm) := hd
        clear hd
        subst hdm
        go_wp2
        go_round
        case rel => exact ⟨m, by omega, by go_num, fun j h1 h2 => by
          by_cases e : j = m
          · subst e; exact Hd.out
          · exact HZ.out j (by omega) h2⟩
        case measure => simp [intOf]
      · have Hd : Hid (d m = dm) := hd
        have hb : (dm == 0) = false := by rw [beq_eq_false_iff_ne]; exact hdm
        have Hdm : Hid (dm ≠ 0) := hdm
        clear hd hdm
        go_wp2
        go_ret
        exact ⟨m + 1, hk, rfl, HZ.out, fun _ => by simp; rw [Hd.out]; exact Hdm.out, rfl⟩

theorem trim_nil (w : World) : Calls Tryz.prog 61 #[.slice none 0 0] w fun e w' => e = .returned (.slice none 0 0) ∧ w' = w := by
  go_enter Tryz.func61, Tryz.ntmps61
  go_wp2
  refine wp_loop_rounds 1 ?_
  rw [rounds_succ]
  go_wp2
  go_ret
  exact ⟨rfl, rfl⟩

theorem trim_any {ao : Option Addr} {n cap : Nat} {zs : List Int} {w : World} (h : Digs w ao n cap zs) (ho : Ok zs) :
    Calls Tryz.prog 61 #[.slice ao n cap] w fun e w' => ∃ ao' n' cap' ys, e = .returned (.slice ao' n' cap') ∧ Digs w' ao' n' cap' ys ∧ Ok ys ∧ Trimmed ys ∧ val ys = val zs ∧ ys.length ≤ zs.length ∧ ao' = ao ∧ w' = w := by
  obtain ⟨h1, h2, h3, h4⟩ := h
  rcases h4 with ⟨rfl, rfl, rfl⟩ | ⟨b, off, rfl, hb', hc⟩
  · subst h1
    refine (trim_nil w).mono ?_
    rintro e w' ⟨rfl, rfl⟩
    exact ⟨none, 0, 0, [], rfl, ⟨rfl, Nat.le_refl _, Nat.zero_le _, .inl ⟨rfl, rfl, rfl⟩⟩, Ok.nil, fun h => absurd rfl h, rfl, Nat.le_refl _, rfl, rfl⟩
  · refine (trim_walk b off n cap (fun j => zs.getD j 0) w h2 h3 (fun j hj => hc j (by omega))).mono ?_
    rintro e w' ⟨k, hk, rfl, hz, ht, rfl⟩
    obtain ⟨a1, a2, a3, a4, a5⟩ := trim_val ho k (by omega) (fun j hj => by
      by_cases hjn : j < n
      · exact hz j hj hjn
      · rw [List.getD_eq_getElem?_getD, List.getElem?_eq_none (by omega)]; rfl) ht
    exact ⟨_, _, _, zs.take k, rfl, ⟨a4.symm, by omega, by omega, .inr ⟨b, off, rfl, hb', fun j hj => by rw [a5 j (by omega)]; exact hc j (by omega)⟩⟩, a1, a2, a3, by omega, rfl, rfl⟩

/-- A slice value that holds a number's digits, without noughts at the end; at most L of them. -/
def Num (w : World) (ao : Option Addr) (n cap : Nat) (N : Int) (L : Nat) : Prop := ∃ zs, Digs w ao n cap zs ∧ Ok zs ∧ Trimmed zs ∧ val zs = N ∧ n ≤ L
theorem Num.below {w w' : World} {ao : Option Addr} {n cap : Nat} {N : Int} {L : Nat} (h : Num w ao n cap N L) (hb : Below w.heap.size w w') : Num w' ao n cap N L := by
  obtain ⟨zs, h1, h2⟩ := h
  exact ⟨zs, h1.below hb, h2⟩
theorem Num.nonneg {w : World} {ao : Option Addr} {n cap : Nat} {N : Int} {L : Nat} (h : Num w ao n cap N L) : 0 ≤ N := by
  obtain ⟨zs, h1, h2, _, rfl, _⟩ := h
  exact val_nonneg h2
theorem Num.nil (w : World) (L : Nat) : Num w none 0 0 0 L := ⟨[], ⟨rfl, Nat.le_refl _, by omega, .inl ⟨rfl, rfl, rfl⟩⟩, Ok.nil, fun h => absurd rfl h, rfl, Nat.zero_le _⟩

/-- Memory that was made since w, or none. -/
def New (w : World) (ao : Option Addr) : Prop := ∀ a, ao = some a → w.heap.size ≤ a.block

/-- Two rows that agree above a place, and differ there, differ so in all. -/
theorem cmp_lt {xs ys : List Int} (hx : Ok xs) (hy : Ok ys) (k : Nat) (he : val xs - val (xs.take (k + 1)) = val ys - val (ys.take (k + 1))) (hlt : xs.getD k 0 < ys.getD k 0) : val xs < val ys := by
  rw [val_take, val_take] at he
  have h1 := val_take_lt hx k
  have h2 := val_nonneg (hy.take k)
  have h3 := Int.mul_le_mul_of_nonneg_right (show xs.getD k 0 + 1 ≤ ys.getD k 0 by omega) (Int.le_of_lt (pw_pos k))
  rw [Int.add_mul] at h3
  omega
theorem cmp_down {xs ys : List Int} (k : Nat) (he : val xs - val (xs.take (k + 1)) = val ys - val (ys.take (k + 1))) (hq : xs.getD k 0 = ys.getD k 0) : val xs - val (xs.take k) = val ys - val (ys.take k) := by
  rw [val_take, val_take, hq] at he
  omega

set_option maxHeartbeats 400000 in
theorem cmp_any {ao bo : Option Addr} {n m cap cap' : Nat} {xs ys : List Int} {w : World} (hx : Digs w ao n cap xs) (hy : Digs w bo m cap' ys) (ox : Ok xs) (oy : Ok ys) :
    Calls Tryz.prog 37 #[.slice ao n cap, .slice bo m cap'] w fun e w' => (∃ c : Int, e = .returned (.int .i64 c) ∧ ((c = -1 ∧ val xs < val ys) ∨ (c = 0 ∧ val xs = val ys) ∨ (c = 1 ∧ val ys < val xs))) ∧ w' = w := by
  have ln : n = xs.length := hx.1
  have lm : m = ys.length := hy.1
  have bn := hx.2.2.1
  have bm := hy.2.2.1
  have HX := hide hx; have HY := hide hy; have HOX := hide ox; have HOY := hide oy
  have Hln := hide ln; have Hlm := hide lm
  clear hx hy ox oy ln lm
  go_enter Tryz.func37, Tryz.ntmps37
  go_wp2
  all_goals
    go_loop [5] (fun t => ∃ k : Nat, t = .int .i64 (k - 1 : Int) ∧ k ≤ 1048576 ∧ val xs - val (xs.take k) = val ys - val (ys.take k)) (fun t => (intOf t + 1).toNat)
    case atStart => exact ⟨_, rfl, by omega, by have := Hln.out; have := Hlm.out; rw [val_take_all xs _ (by omega), val_take_all ys _ (by omega)]; omega⟩
    case round =>
      obtain ⟨k, rfl, hk, hv⟩ := hrel
      have HV := hide hv
      clear hv
      by_cases h0 : k = 0
      · subst h0
        go_wp2
        go_ret
        have e := HV.out
        simp only [List.take_zero, val] at e
        exact ⟨⟨0, rfl, .inr (.inl ⟨rfl, by omega⟩)⟩, rfl⟩
      · obtain ⟨j, rfl⟩ : ∃ j, k = j + 1 := ⟨k - 1, by omega⟩
        clear h0
        have ix : (((j + 1 : Nat) : Int) - 1) = (j : Int) := by omega
        rw [ix]
        clear ix
        obtain ⟨x, ex, cx⟩ : ∃ x, Hid (x = xs.getD j 0) ∧ Hid (Calls Tryz.prog 60 #[.slice ao n cap, .int .i64 j] w fun e w' => e = .returned (.int .i64 x) ∧ w' = w) := ⟨_, rfl, at_any HX.out j⟩
        obtain ⟨y, ey, cy⟩ : ∃ y, Hid (y = ys.getD j 0) ∧ Hid (Calls Tryz.prog 60 #[.slice bo m cap', .int .i64 j] w fun e w' => e = .returned (.int .i64 y) ∧ w' = w) := ⟨_, rfl, at_any HY.out j⟩
        rcases Int.lt_trichotomy x y with hxy | hxy | hxy
        · go_wp2_with fail
          refine cx.out.mono ?_
          rintro e w1 ⟨rfl, rfl⟩
          go_wp2_with fail
          refine cy.out.mono ?_
          rintro e w1 ⟨rfl, rfl⟩
          go_wp2_with fail
          go_ret
          exact ⟨⟨-1, rfl, .inl ⟨rfl, cmp_lt HOX.out HOY.out j HV.out (by rw [← ex.out, ← ey.out]; exact hxy)⟩⟩, rfl⟩
        · subst hxy
          go_wp2_with fail
          refine cx.out.mono ?_
          rintro e w1 ⟨rfl, rfl⟩
          go_wp2_with fail
          refine cy.out.mono ?_
          rintro e w1 ⟨rfl, rfl⟩
          go_wp2_with fail
          refine cx.out.mono ?_
          rintro e w1 ⟨rfl, rfl⟩
          go_wp2_with fail
          refine cy.out.mono ?_
          rintro e w1 ⟨rfl, rfl⟩
          go_wp2_with fail
          go_round
          case rel => exact ⟨j, by go_num, by omega, cmp_down j HV.out (ex.out.symm.trans ey.out)⟩
          case measure => simp [intOf]
        · go_wp2_with fail
          refine cx.out.mono ?_
          rintro e w1 ⟨rfl, rfl⟩
          go_wp2_with fail
          refine cy.out.mono ?_
          rintro e w1 ⟨rfl, rfl⟩
          go_wp2_with fail
          refine cx.out.mono ?_
          rintro e w1 ⟨rfl, rfl⟩
          go_wp2_with fail
          refine cy.out.mono ?_
          rintro e w1 ⟨rfl, rfl⟩
          go_wp2_with fail
          go_ret
          exact ⟨⟨1, rfl, .inr (.inr ⟨rfl, cmp_lt HOY.out HOX.out j HV.out.symm (by rw [← ex.out, ← ey.out]; exact hxy)⟩)⟩, rfl⟩

theorem Tryz.info3 : (Tryz.prog.info? 3).map (fun i => (i.zero, i.size, i.bytes)) = some (some (.int .i64 0), 1, 8) := by kernel_rfl

/-- A row that the call itself made, read as digits. -/
theorem owns_digs {w : World} {B n : Nat} {v : Value} {zs : List Int} (h : w.ownsRow B 3 1 v n (zs.map (Value.int .i64))) (hl : zs.length ≤ 1048576) :
    ∃ ao cap, v = .slice ao zs.length cap ∧ Digs w ao zs.length cap zs := by
  have hn : n = zs.length := by have := h.1; simp at this; omega
  subst hn
  rcases h.2 with ⟨rfl, e⟩ | ⟨g, cap, cur, rfl, hb, hg, hcap, hm, hs, ht⟩
  · exact ⟨none, 0, by rw [e], rfl, by omega, hl, .inl ⟨rfl, List.length_eq_zero_iff.1 e, rfl⟩⟩
  · refine ⟨_, cap, rfl, rfl, hcap, hl, .inr ⟨g, 0, rfl, ?_, ?_⟩⟩
    · exact (Array.getElem?_eq_some_iff.1 hg).1
    · intro j hj
      have := World.ownsRow.cellAt h j (by omega)
      rw [Nat.zero_add, this, List.getElem?_map, List.getElem?_eq_getElem hj, List.getD_eq_getElem?_getD, List.getElem?_eq_getElem hj]
      rfl

/-- One digit appended: what is owned, and that nothing old has turned. -/
theorem append_step {w wr w1 : World} {o : Obj} {v v' : Value} {zs : List Int} {d : Int} (hnx : Below w.heap.size w wr) (hown : wr.ownsRow w.heap.size 3 1 v zs.length (zs.map (Value.int .i64)))
    (hown' : w1.ownsRow w.heap.size 3 1 v' (zs.length + 1) (zs.map (Value.int .i64) ++ [.int .i64 d])) (hgrow : (wr.alloc o).grownBy w1 v.ownBlock) :
    Below w.heap.size w w1 ∧ w1.ownsRow w.heap.size 3 1 v' (zs ++ [d]).length ((zs ++ [d]).map (Value.int .i64)) := by
  have hs := hnx.size
  refine ⟨(hnx.alloc hs o).grown hgrow (by simp; omega) (fun k hk => (hown.lt k hk).1), ?_⟩
  simpa using hown'

theorem one_cell (d : Int) : ∀ u ∈ [Value.int .i64 d], u.oneCell' = true := by intro u hu; simp at hu; subst hu; rfl

/-- The value v holds the ints zs, in a row that was made since w; what lay in w is as it was. -/
def Made (w wr : World) (v : Value) (zs : List Int) : Prop := wr.ownsRow w.heap.size 3 1 v zs.length (zs.map (Value.int .i64)) ∧ Below w.heap.size w wr
theorem Made.nil (w : World) : Made w w (.slice none 0 0) [] := ⟨World.ownsRow_nil _ _ _ _, Below.refl _ _⟩
theorem Made.new {w wr : World} {ao : Option Addr} {n cap : Nat} {zs : List Int} (h : Made w wr (.slice ao n cap) zs) : New w ao := by
  intro a e
  subst e
  exact (h.1.lt a.block rfl).1
theorem Made.digs {w wr : World} {v : Value} {zs : List Int} (h : Made w wr v zs) (hl : zs.length ≤ 1048576) : ∃ ao cap, v = .slice ao zs.length cap ∧ Digs wr ao zs.length cap zs := owns_digs h.1 hl

/-- One int appended to a row that the call itself made. -/
theorem app_int {ops : Array Oper} {rest : List Oper} {o : Oper} {a : Act} {Q : Exit → Act → World → Prop} (hgd : o.guard = none) (s x : Operand)
    (ho : o.op = .call { callee := .builtin .append, args := #[s, x], argTypes := #[85, 85] }) {w wr : World} (v : Value) (zs : List Int) (d : Int) (hs : a.eval s = v)
    (hx : a.eval x = .slice (some ⟨wr.heap.size, 0, none⟩) 1 1) (hm : Made w wr v zs) (hl : zs.length ≤ 1048576)
    (h : ∀ v' w1, Made w w1 v' (zs ++ [d]) → wpList Tryz.prog ops Q rest (a.put o.dst v') w1) :
    wpList Tryz.prog ops Q (o :: rest) a (wr.alloc (.cells #[.int .i64 d] 3)) := by
  obtain ⟨i0, hi, hz0, hz1, hz2⟩ := info_parts Tryz.info3
  obtain ⟨hown, hnx⟩ := hm
  refine wpList_append_own _ hgd s x 85 ho w.heap.size 3 i0 (.int .i64 0) 1 8 Tryz.underlying85 hi hz0 hz1 hz2 rfl (by decide) v zs.length _ hs (hown.alloc _) ⟨wr.heap.size, 0, none⟩ 1 1 [.int .i64 d] hx rfl (cell_one_new _ _ _) (one_cell _) (by unfold maxLen; omega) (by omega) (by have := hnx.size; simp; omega) ?_
  intro v' w1 hown' hgrow _
  obtain ⟨b1, b2⟩ := append_step hnx hown hown' hgrow
  exact h v' w1 ⟨b2, b1⟩

theorem of_step {X y : Int} {zs : List Int} (hX : X < 18446744073709551616) (ho : Ok zs) (hy : 0 < y) (hv : val zs + y * pw zs.length = X) :
    Ok (zs ++ [y % 65536]) ∧ val (zs ++ [y % 65536]) + y / 65536 * pw (zs ++ [y % 65536]).length = X ∧ (y / 65536 = 0 → Trimmed (zs ++ [y % 65536])) ∧ zs.length < 4 := by
  have hp := pw_pos zs.length
  refine ⟨ho.append (Ok.one (by omega)), ?_, ?_, ?_⟩
  · rw [val_snoc, List.length_append, List.length_singleton, pw_succ, ← hv]
    have e : y * pw zs.length = (y / 65536 * 65536 + y % 65536) * pw zs.length := by congr 1; omega
    rw [e, Int.add_mul, Int.mul_assoc, Int.mul_comm 65536]
    omega
  · intro h0 _
    rw [List.length_append, List.length_singleton, Nat.add_sub_cancel, List.getD_eq_getElem?_getD, List.getElem?_append_right (Nat.le_refl _)]
    simp
    omega
  · have h0 := val_nonneg ho
    have h1 := Int.mul_le_mul_of_nonneg_right (show 1 ≤ y by omega) (Int.le_of_lt hp)
    by_cases hc : zs.length < 4
    · exact hc
    · have h2 := pw_mono (show 4 ≤ zs.length by omega)
      have h3 : pw 4 = 18446744073709551616 := by decide
      omega

theorem split_digit (x P : Int) : x * P = x / 65536 * (P * 65536) + x % 65536 * P := by
  have e : x * P = (x / 65536 * 65536 + x % 65536) * P := by congr 1; omega
  rw [e, Int.add_mul, Int.mul_assoc, Int.mul_comm 65536]

theorem add_step {xs ys zs : List Int} {k : Nat} {c : Int} (hx : Ok xs) (hy : Ok ys) (hz : Ok zs) (hk : zs.length = k) (hc : 0 ≤ c ∧ c ≤ 1)
    (hv : val zs + c * pw k = val (xs.take k) + val (ys.take k)) :
    let x := xs.getD k 0 + ys.getD k 0 + c
    Ok (zs ++ [x % 65536]) ∧ val (zs ++ [x % 65536]) + x / 65536 * pw (k + 1) = val (xs.take (k + 1)) + val (ys.take (k + 1)) ∧ 0 ≤ x / 65536 ∧ x / 65536 ≤ 1 := by
  intro x
  have h1 := hx.getD k
  have h2 := hy.getD k
  refine ⟨hz.append (Ok.one (by omega)), ?_, by omega, by omega⟩
  rw [val_snoc, val_take, val_take, hk, pw_succ]
  have e := split_digit x (pw k)
  have e2 : x * pw k = xs.getD k 0 * pw k + ys.getD k 0 * pw k + c * pw k := by rw [← Int.add_mul, ← Int.add_mul]
  omega

set_option maxHeartbeats 1000000 in
theorem add_raw {ao bo : Option Addr} {n m cap cap' : Nat} {xs ys : List Int} {w : World} (hx : Digs w ao n cap xs) (hy : Digs w bo m cap' ys) (ox : Ok xs) (oy : Ok ys) (bn : n < 1048576) (bm : m < 1048576) :
    Calls Tryz.prog 49 #[.slice ao n cap, .slice bo m cap'] w fun e w' => ∃ ao' n' cap' zs, e = .returned (.slice ao' n' cap') ∧ Digs w' ao' n' cap' zs ∧ Ok zs ∧ Trimmed zs ∧ val zs = val xs + val ys ∧ Below w.heap.size w w' ∧ New w ao' := by
  have HX := hide hx; have HY := hide hy; have HOX := hide ox; have HOY := hide oy
  have Hln : Hid (n = xs.length) := hx.1
  have Hlm : Hid (m = ys.length) := hy.1
  clear hx hy ox oy
  obtain ⟨M, hM⟩ : ∃ M, M = max n m := ⟨_, rfl⟩
  have HM := hide hM
  have bM : M < 1048576 := by omega
  clear hM
  go_enter Tryz.func49, Tryz.ntmps49
  go_wp2
  go_loopw [5, 6, 7] (fun v c i wr => ∃ (k : Nat) (cc : Int) (zs : List Int), c = .int .i64 cc ∧ i = .int .i64 k ∧ 0 ≤ cc ∧ cc ≤ 1 ∧ Made w wr v zs ∧ Ok zs ∧ zs.length = k ∧ val zs + cc * pw k = val (xs.take k) + val (ys.take k) ∧ k ≤ M + 1 ∧ (k = M + 1 → cc = 0))
    (fun _ _ i _ => M + 1 - (intOf i).toNat)
  case atStart => exact ⟨0, 0, [], rfl, rfl, by omega, by omega, Made.nil _, Ok.nil, rfl, by simp [val], by omega, by omega⟩
  case round =>
    obtain ⟨k, cc, zs, rfl, rfl, hc0, hc1, hm, ho, hl, hv, hk, hlast⟩ := hrel
    have HO := hide ho; have HL := hide hl; have HV := hide hv; have HK := hide hlast
    clear ho hl hv hlast
    obtain ⟨x, ex, cx⟩ : ∃ x, Hid (x = xs.getD k 0) ∧ Hid (Calls Tryz.prog 60 #[.slice ao n cap, .int .i64 k] wr fun e w' => e = .returned (.int .i64 x) ∧ w' = wr) := ⟨_, rfl, at_any (HX.out.below hm.2) k⟩
    obtain ⟨y, ey, cy⟩ : ∃ y, Hid (y = ys.getD k 0) ∧ Hid (Calls Tryz.prog 60 #[.slice bo m cap', .int .i64 k] wr fun e w' => e = .returned (.int .i64 y) ∧ w' = wr) := ⟨_, rfl, at_any (HY.out.below hm.2) k⟩
    have bx : 0 ≤ x ∧ x < 65536 := by rw [ex.out]; exact HOX.out.getD k
    have bY : 0 ≤ y ∧ y < 65536 := by rw [ey.out]; exact HOY.out.getD k
    obtain ⟨bx0, bx1⟩ := bx
    obtain ⟨by0, by1⟩ := bY
    have hx1 : 0 ≤ x + y + cc := by omega
    have st := add_step HOX.out HOY.out HO.out HL.out ⟨hc0, hc1⟩ HV.out
    rw [← ex.out, ← ey.out] at st
    obtain ⟨s1, s2, s3, s4⟩ := st
    have H1 := hide s1; have H2 := hide s2; have H3 := hide s3; have H4 := hide s4
    clear s1 s2 s3 s4
    have Hcc : Hid (¬ k < M → (x + y + cc) / 65536 = 0) := by
      intro h
      have e1 : x = 0 := by rw [ex.out, List.getD_eq_getElem?_getD, List.getElem?_eq_none (by have := Hln.out; have := HM.out; omega)]; rfl
      have e2 : y = 0 := by rw [ey.out, List.getD_eq_getElem?_getD, List.getElem?_eq_none (by have := Hlm.out; have := HM.out; omega)]; rfl
      omega
    have hkM : Hid (0 < cc → k ≤ M) := by
      intro h
      by_cases e : k = M + 1
      · have := HK.out e; omega
      · omega
    have hMx := HM.out
    have hl' : zs.length ≤ 1048576 := by have := HL.out; omega
    by_cases hgo : k < M ∨ (¬ k < M ∧ 0 < cc)
    · have hkM2 : k ≤ M := by
        rcases hgo with h | ⟨_, h⟩
        · omega
        · exact hkM.out h
      have Hgo : Hid (k < M ∨ ¬ k < M) := by exact Decidable.em _
      rcases hgo with hg | ⟨hg, hcp⟩ <;> by_cases hnm : n < m
      all_goals
        try (have hq1 : k < m := by omega)
        try (have hq2 : k < n := by omega)
        try (have hq3 : ¬ k < m := by omega)
        try (have hq4 : ¬ k < n := by omega)
        clear hMx hg
        go_wp2_with fail
        refine cx.out.mono ?_
        rintro e w1 ⟨rfl, rfl⟩
        go_wp2_with fail
        refine cy.out.mono ?_
        rintro e w1 ⟨rfl, rfl⟩
        go_wp2_with (at_builtin; refine app_int rfl _ _ rfl _ zs ((x + y + cc) % 65536) rfl rfl hm hl' ?_)
        intro v' w2 hm'
        go_wp2
        go_roundw
        case rel => exact ⟨k + 1, (x + y + cc) / 65536, zs ++ [(x + y + cc) % 65536], rfl, by go_num, H3.out, H4.out, hm', H1.out, by rw [List.length_append, HL.out]; rfl, H2.out, by omega, fun h => Hcc.out (by omega)⟩
        case measure => simp [intOf]; omega
    · have hcz : cc = 0 := by omega
      have hge : ¬ k < M := by omega
      by_cases hnm : n < m
      all_goals
        have hq3 : ¬ k < m := by omega
        have hq4 : ¬ k < n := by omega
        have Hge := hide hge
        clear hMx hgo hge
        subst hcz
        go_wp2_with fail
        obtain ⟨ao1, cap1, rfl, hd⟩ := hm.digs hl'
        refine (trim_any hd HO.out).mono ?_
        rintro e w2 ⟨ao2, n2, cap2, vs, rfl, t1, t2, t3, t4, t5, t6, rfl⟩
        have T4 := hide t4
        clear t4 t5
        subst t6
        go_wp2
        go_ret
        have := Hln.out; have := Hlm.out; have := HM.out; have := Hge.out
        refine ⟨_, _, _, vs, rfl, t1, t2, t3, ?_, hm.2, hm.new⟩
        rw [T4.out]
        have e := HV.out
        rw [val_take_all xs _ (by omega), val_take_all ys _ (by omega)] at e
        omega

theorem add_new {ao bo : Option Addr} {n m cap cap' : Nat} {A B : Int} {L : Nat} {w : World} (hx : Num w ao n cap A L) (hy : Num w bo m cap' B L) (hL : L < 1048576) :
    Calls Tryz.prog 49 #[.slice ao n cap, .slice bo m cap'] w fun e w' => ∃ ao' n' cap', e = .returned (.slice ao' n' cap') ∧ Num w' ao' n' cap' (A + B) (L + 1) ∧ Below w.heap.size w w' ∧ New w ao' := by
  obtain ⟨xs, dx, ox, tx, rfl, lx⟩ := hx
  obtain ⟨ys, dy, oy, ty, rfl, ly⟩ := hy
  refine (add_raw dx dy ox oy (by omega) (by omega)).mono ?_
  rintro e w' ⟨ao', n', cap', zs, rfl, h1, h2, h3, h4, h5, h6⟩
  refine ⟨_, _, _, rfl, ⟨zs, h1, h2, h3, h4, ?_⟩, h5, h6⟩
  have e := h1.1
  rw [e]
  apply trimmed_short h2 h3
  rw [h4, pw_succ]
  have a1 := val_lt ox
  have a2 := val_lt oy
  have b1 := pw_mono (show xs.length ≤ L by have := dx.1; omega)
  have b2 := pw_mono (show ys.length ≤ L by have := dy.1; omega)
  have := pw_pos L
  omega
theorem add_any {ao bo : Option Addr} {n m cap cap' : Nat} {A B : Int} {L : Nat} {w : World} (hx : Num w ao n cap A L) (hy : Num w bo m cap' B L) (hL : L < 1048576) :
    Calls Tryz.prog 49 #[.slice ao n cap, .slice bo m cap'] w fun e w' => ∃ ao' n' cap', e = .returned (.slice ao' n' cap') ∧ Num w' ao' n' cap' (A + B) (L + 1) ∧ Below w.heap.size w w' := by
  refine (add_new hx hy hL).mono ?_
  rintro e w' ⟨ao', n', cap', h1, h2, h3, _⟩
  exact ⟨ao', n', cap', h1, h2, h3⟩
/-- A number that is less has no more digits. -/
theorem Num.short {w w' : World} {ao bo : Option Addr} {n m cap cap' : Nat} {A B : Int} {L M : Nat} (h : Num w ao n cap A L) (hb : Num w' bo m cap' B M) (hle : A ≤ B) : Num w ao n cap A M := by
  obtain ⟨xs, dx, ox, tx, rfl, lx⟩ := h
  obtain ⟨ys, dy, oy, ty, rfl, ly⟩ := hb
  refine ⟨xs, dx, ox, tx, rfl, ?_⟩
  have := trimmed_len ox tx oy hle
  have := dx.1
  have := dy.1
  omega
theorem Num.upto {w : World} {ao : Option Addr} {n cap : Nat} {A : Int} {L : Nat} (h : Num w ao n cap A L) (M : Nat) (hlt : A < pw M) : Num w ao n cap A M := by
  obtain ⟨xs, dx, ox, tx, rfl, lx⟩ := h
  exact ⟨xs, dx, ox, tx, rfl, by rw [dx.1]; exact trimmed_short ox tx M hlt⟩
theorem Num.mono {w : World} {ao : Option Addr} {n cap : Nat} {A : Int} {L : Nat} (h : Num w ao n cap A L) {M : Nat} (hle : L ≤ M) : Num w ao n cap A M := by
  obtain ⟨xs, dx, ox, tx, rfl, lx⟩ := h
  exact ⟨xs, dx, ox, tx, rfl, by omega⟩
theorem cmp_num {ao bo : Option Addr} {n m cap cap' : Nat} {A B : Int} {L M : Nat} {w : World} (hx : Num w ao n cap A L) (hy : Num w bo m cap' B M) :
    Calls Tryz.prog 37 #[.slice ao n cap, .slice bo m cap'] w fun e w' => (∃ c : Int, e = .returned (.int .i64 c) ∧ ((c = -1 ∧ A < B) ∨ (c = 0 ∧ A = B) ∨ (c = 1 ∧ B < A))) ∧ w' = w := by
  obtain ⟨xs, dx, ox, tx, rfl, lx⟩ := hx
  obtain ⟨ys, dy, oy, ty, rfl, ly⟩ := hy
  exact cmp_any dx dy ox oy

theorem Made.drewN {w wr : World} {v : Value} {zs : List Int} (h : Made w wr v zs) (q : Nat) : Made w (wr.drewN q) v zs := ⟨h.1, below_drewN h.2 q⟩

theorem sub_step {xs ys zs : List Int} {k : Nat} {c x c' : Int} (hz : Ok zs) (hk : zs.length = k) (hv : val zs - c * pw k = val (xs.take k) - val (ys.take k))
    (hx : x - c' * 65536 = xs.getD k 0 - ys.getD k 0 - c) (hx0 : 0 ≤ x ∧ x < 65536) :
    Ok (zs ++ [x]) ∧ val (zs ++ [x]) - c' * pw (k + 1) = val (xs.take (k + 1)) - val (ys.take (k + 1)) := by
  refine ⟨hz.append (Ok.one hx0), ?_⟩
  rw [val_snoc, val_take, val_take, hk, pw_succ]
  have e : (x - c' * 65536) * pw k = (xs.getD k 0 - ys.getD k 0 - c) * pw k := by rw [hx]
  rw [Int.sub_mul, Int.sub_mul, Int.sub_mul, Int.mul_assoc, Int.mul_comm 65536] at e
  omega

theorem sub_end {xs ys zs : List Int} {c : Int} (hz : Ok zs) (hk : zs.length = xs.length) (hl : ys.length ≤ xs.length) (hc : 0 ≤ c ∧ c ≤ 1) (hle : val ys ≤ val xs)
    (hv : val zs - c * pw xs.length = val (xs.take xs.length) - val (ys.take xs.length)) : val zs = val xs - val ys := by
  rw [List.take_length, val_take_all ys _ hl] at hv
  have h1 := val_lt hz
  rw [hk] at h1
  rcases (by omega : c = 0 ∨ c = 1) with rfl | rfl <;> omega

set_option maxHeartbeats 1000000 in
theorem sub_raw {ao bo : Option Addr} {n m cap cap' : Nat} {xs ys : List Int} {w : World} (hx : Digs w ao n cap xs) (hy : Digs w bo m cap' ys) (ox : Ok xs) (oy : Ok ys) (hl : ys.length ≤ xs.length) (hle : val ys ≤ val xs) :
    Calls Tryz.prog 67 #[.slice ao n cap, .slice bo m cap'] w fun e w' => ∃ ao' n' cap' zs, e = .returned (.slice ao' n' cap') ∧ Digs w' ao' n' cap' zs ∧ Ok zs ∧ Trimmed zs ∧ val zs = val xs - val ys ∧ Below w.heap.size w w' ∧ New w ao' := by
  have HX := hide hx; have HY := hide hy; have HOX := hide ox; have HOY := hide oy; have HLE := hide hle; have HLL := hide hl
  have Hln : Hid (n = xs.length) := hx.1
  have bn : n ≤ 1048576 := hx.2.2.1
  clear hx hy ox oy hle hl
  go_enter Tryz.func67, Tryz.ntmps67
  go_wp2
  go_loopw [5, 6, 7] (fun v c i wr => ∃ (k : Nat) (cc : Int) (zs : List Int), c = .int .i64 cc ∧ i = .int .i64 k ∧ 0 ≤ cc ∧ cc ≤ 1 ∧ Made w wr v zs ∧ Ok zs ∧ zs.length = k ∧ val zs - cc * pw k = val (xs.take k) - val (ys.take k) ∧ k ≤ n)
    (fun _ _ i _ => n - (intOf i).toNat)
  case atStart => exact ⟨0, 0, [], rfl, rfl, by omega, by omega, Made.nil _, Ok.nil, rfl, by simp [val], by omega⟩
  case round =>
    obtain ⟨k, cc, zs, rfl, rfl, hc0, hc1, hm, ho, hl, hv, hk⟩ := hrel
    have HO := hide ho; have HL := hide hl; have HV := hide hv
    clear ho hl hv
    have hl' : zs.length ≤ 1048576 := by have := HL.out; omega
    by_cases hkn : k < n
    · obtain ⟨y, ey, cy⟩ : ∃ y, Hid (y = ys.getD k 0) ∧ Hid (∀ q, Calls Tryz.prog 60 #[.slice bo m cap', .int .i64 k] (wr.drewN q) fun e w' => e = .returned (.int .i64 y) ∧ w' = wr.drewN q) := ⟨_, rfl, fun q => at_any ((HY.out.below hm.2).below (below_drewN (Below.refl _ _) q)) k⟩
      obtain ⟨x, ex⟩ : ∃ x, Hid (x = xs.getD k 0) := ⟨_, rfl⟩
      obtain ⟨b, off, rfl, hc⟩ : ∃ b off, ao = some ⟨b, off, none⟩ ∧ wr.cell? ⟨b, off + k, none⟩ = some (.int .i64 x) := by
        obtain ⟨_, _, _, h4⟩ := HX.out.below hm.2
        rcases h4 with ⟨_, rfl, _⟩ | ⟨b, off, e, _, hc⟩
        · have := Hln.out; simp at this; omega
        · exact ⟨b, off, e, by rw [ex.out]; exact hc k (by have := Hln.out; omega)⟩
      have bx : 0 ≤ x ∧ x < 65536 := by rw [ex.out]; exact HOX.out.getD k
      have bY : 0 ≤ y ∧ y < 65536 := by rw [ey.out]; exact HOY.out.getD k
      obtain ⟨bx0, bx1⟩ := bx
      obtain ⟨by0, by1⟩ := bY
      have hki : (k : Int) < (n : Int) := by omega
      by_cases hneg : x - y - cc < 0
      · obtain ⟨s1, s2⟩ := sub_step (xs := xs) (ys := ys) (x := x - y - cc + 65536) (c' := 1) HO.out HL.out HV.out (by rw [← ex.out, ← ey.out]; omega) (by omega)
        have H2 := hide s2
        clear s2
        go_wp2_with fail
        go_quiet ((go_at_call 60; exact Calls.quiet_of_same (cy.out _)))
        obtain ⟨wq, hq⟩ : ∃ wq, wq = wr.drewN nq := ⟨_, rfl⟩
        have hm2 := hm.drewN nq
        rw [← hq] at hm2 ⊢
        clear hq hm hc cy
        go_wp2_with (at_builtin; refine app_int rfl _ _ rfl _ zs (x - y - cc + 65536) rfl rfl hm2 hl' ?_)
        intro v' w2 hm'
        clear hm2
        go_wp2
        go_roundw
        case rel => exact ⟨k + 1, 1, zs ++ [x - y - cc + 65536], rfl, by go_num, by omega, by omega, hm', s1, by rw [List.length_append, HL.out]; rfl, H2.out, by omega⟩
        case measure => simp [intOf]; omega
      · obtain ⟨s1, s2⟩ := sub_step (xs := xs) (ys := ys) (x := x - y - cc) (c' := 0) HO.out HL.out HV.out (by rw [← ex.out, ← ey.out]; omega) (by omega)
        have H2 := hide s2
        clear s2
        go_wp2_with fail
        go_quiet ((go_at_call 60; exact Calls.quiet_of_same (cy.out _)))
        obtain ⟨wq, hq⟩ : ∃ wq, wq = wr.drewN nq := ⟨_, rfl⟩
        have hm2 := hm.drewN nq
        rw [← hq] at hm2 ⊢
        clear hq hm hc cy
        go_wp2_with (at_builtin; refine app_int rfl _ _ rfl _ zs (x - y - cc) rfl rfl hm2 hl' ?_)
        intro v' w2 hm'
        clear hm2
        go_wp2
        go_roundw
        case rel => exact ⟨k + 1, 0, zs ++ [x - y - cc], rfl, by go_num, by omega, by omega, hm', s1, by rw [List.length_append, HL.out]; rfl, H2.out, by omega⟩
        case measure => simp [intOf]; omega
    · have hkk : k = n := by omega
      have Hkk := hide hkk
      clear hkk
      have hki : ¬ (k : Int) < (n : Int) := by omega
      go_wp2_with fail
      obtain ⟨ao1, cap1, rfl, hd⟩ := hm.digs hl'
      refine (trim_any hd HO.out).mono ?_
      rintro e w2 ⟨ao2, n2, cap2, vs, rfl, t1, t2, t3, t4, t5, t6, rfl⟩
      have T4 := hide t4
      clear t4 t5
      subst t6
      go_wp2
      go_ret
      refine ⟨_, _, _, vs, rfl, t1, t2, t3, ?_, hm.2, hm.new⟩
      rw [T4.out]
      have e1 := Hkk.out
      have e2 := Hln.out
      exact sub_end HO.out (by rw [HL.out, e1, e2]) HLL.out ⟨hc0, hc1⟩ HLE.out (by have := HV.out; rw [e1, e2] at this; exact this)

theorem sub_new {ao bo : Option Addr} {n m cap cap' : Nat} {A B : Int} {L M : Nat} {w : World} (hx : Num w ao n cap A L) (hy : Num w bo m cap' B M) (hle : B ≤ A) :
    Calls Tryz.prog 67 #[.slice ao n cap, .slice bo m cap'] w fun e w' => ∃ ao' n' cap', e = .returned (.slice ao' n' cap') ∧ Num w' ao' n' cap' (A - B) L ∧ Below w.heap.size w w' ∧ New w ao' := by
  obtain ⟨xs, dx, ox, tx, rfl, lx⟩ := hx
  obtain ⟨ys, dy, oy, ty, rfl, ly⟩ := hy
  refine (sub_raw dx dy ox oy (trimmed_len oy ty ox hle) hle).mono ?_
  rintro e w' ⟨ao', n', cap', zs, rfl, h1, h2, h3, h4, h5, h6⟩
  refine ⟨_, _, _, rfl, ⟨zs, h1, h2, h3, h4, ?_⟩, h5, h6⟩
  have e := h1.1
  have := dx.1
  have := trimmed_len h2 h3 ox (by rw [h4]; have := val_nonneg oy; omega)
  omega

theorem sub_any {ao bo : Option Addr} {n m cap cap' : Nat} {A B : Int} {L M : Nat} {w : World} (hx : Num w ao n cap A L) (hy : Num w bo m cap' B M) (hle : B ≤ A) :
    Calls Tryz.prog 67 #[.slice ao n cap, .slice bo m cap'] w fun e w' => ∃ ao' n' cap', e = .returned (.slice ao' n' cap') ∧ Num w' ao' n' cap' (A - B) L ∧ Below w.heap.size w w' := by
  refine (sub_new hx hy hle).mono ?_
  rintro e w' ⟨ao', n', cap', h1, h2, h3, _⟩
  exact ⟨ao', n', cap', h1, h2, h3⟩

theorem Made.cell {w wr : World} {g N cap : Nat} {zs : List Int} (h : Made w wr (.slice (some ⟨g, 0, none⟩) N cap) zs) (hN : N = zs.length) (j : Nat) (hj : j < zs.length) : wr.cell? ⟨g, j, none⟩ = some (.int .i64 (zs.getD j 0)) := by
  subst hN
  rw [World.ownsRow.cellAt h.1 j (by omega), List.getElem?_map, List.getElem?_eq_getElem hj, List.getD_eq_getElem?_getD, List.getElem?_eq_getElem hj]
  rfl
theorem Made.frozen {w wr : World} {g N cap : Nat} {zs : List Int} (h : Made w wr (.slice (some ⟨g, 0, none⟩) N cap) zs) (hN : N = zs.length) (j : Nat) : wr.frozen? ⟨g, j, none⟩ = false := by
  subst hN
  exact World.ownsRow.frozenAt h.1 j
theorem Made.store {w wr : World} {g N cap : Nat} {zs : List Int} (h : Made w wr (.slice (some ⟨g, 0, none⟩) N cap) zs) (hN : N = zs.length) (j : Nat) (d : Int) : Made w (wr.setCell ⟨g, j, none⟩ (.int .i64 d)) (.slice (some ⟨g, 0, none⟩) N cap) (zs.set j d) := by
  subst hN
  obtain ⟨h1, h2⟩ := World.ownsRow.stored h.1 j (.int .i64 d)
  have hb := (h.1.lt g rfl).1
  refine ⟨?_, h.2.setCell hb _⟩
  rw [List.length_set, List.map_set]
  exact h1
/-- 'make' of so many noughts. -/
theorem make_int {ops : Array Oper} {rest : List Oper} {o : Oper} {a : Act} {Q : Exit → Act → World → Prop} (hgd : o.guard = none) (l c : Operand) (hop : o.op = Op.makeSlice 85 l c) {w wr : World}
    (L C : Int) (n : Nat) (hl : a.eval l = .int .i64 L) (hc : a.eval c = .int .i64 C) (hL : L = (n : Int)) (hC : C = (n : Int)) (hn : n ≤ 4194304) (hb : Below w.heap.size w wr)
    (hK : ∀ w', Made w w' (.slice (some ⟨wr.heap.size, 0, none⟩) n n) (List.replicate n 0) → wpList Tryz.prog ops Q rest (a.put o.dst (.slice (some ⟨wr.heap.size, 0, none⟩) n n)) w') :
    wpList Tryz.prog ops Q (o :: rest) a wr := by
  obtain ⟨i0, hi, hz0, hz1, hz2⟩ := info_parts Tryz.info3
  refine wpList_make_full wr hgd l c 85 hop w.heap.size 3 i0 (.int .i64 0) 1 Tryz.underlying85 hi hz0 hz1 .i64 .i64 L C n hl hc hL hC (by rw [hz2]; omega) (by unfold maxLen; omega) hb.size ?_
  intro w' h1 h2
  refine hK w' ⟨?_, hb.grown h2 hb.size (fun k hk => by cases hk)⟩
  have e : (madeCells (Value.int .i64 0).cells (n * 1)).toList = (List.replicate n 0).map (Value.int .i64) := by
    rw [Nat.mul_one, List.map_replicate]
    exact toList_madeCells_one (.int .i64 0) n
  rw [e] at h1
  rw [List.length_replicate]
  exact h1
/-- A digit of a row, in memory. -/
theorem Digs.cell {w : World} {ao : Option Addr} {n cap : Nat} {zs : List Int} (h : Digs w ao n cap zs) (k : Nat) (hk : k < n) : ∃ b off, ao = some ⟨b, off, none⟩ ∧ b < w.heap.size ∧ ∀ j, j < n → w.cell? ⟨b, off + j, none⟩ = some (.int .i64 (zs.getD j 0)) := by
  obtain ⟨h1, _, _, h4⟩ := h
  rcases h4 with ⟨_, rfl, _⟩ | ⟨b, off, e, h5, hc⟩
  · simp at h1; omega
  · exact ⟨b, off, e, h5, fun j hj => hc j (by omega)⟩

theorem mul_step {ys zs : List Int} {i k : Nat} {c ai V : Int} (hy : Ok ys) (hz : Ok zs) (hik : i + k < zs.length) (hc : 0 ≤ c ∧ c < 65536) (ha : 0 ≤ ai ∧ ai < 65536)
    (hv : val zs + c * pw (i + k) = V + ai * val (ys.take k) * pw i) :
    let x := zs.getD (i + k) 0 + ai * ys.getD k 0 + c
    0 ≤ x ∧ x < 4294967296 ∧ Ok (zs.set (i + k) (x % 65536)) ∧ val (zs.set (i + k) (x % 65536)) + x / 65536 * pw (i + (k + 1)) = V + ai * val (ys.take (k + 1)) * pw i ∧ 0 ≤ x / 65536 ∧ x / 65536 < 65536 := by
  intro x
  have h1 := hz.getD (i + k)
  have h2 := hy.getD k
  have p0 : 0 ≤ ai * ys.getD k 0 := Int.mul_nonneg ha.1 h2.1
  have p1 : ai * ys.getD k 0 ≤ 65535 * 65535 := Int.mul_le_mul (by omega) (by omega) h2.1 (by omega)
  have hx0 : 0 ≤ x := by omega
  have hx1 : x < 4294967296 := by omega
  refine ⟨hx0, hx1, hz.set _ (by omega), ?_, by omega, by omega⟩
  rw [val_set _ _ _ hik, val_take, ← Nat.add_assoc, pw_succ]
  have e := split_digit x (pw (i + k))
  have e2 : x * pw (i + k) = zs.getD (i + k) 0 * pw (i + k) + ai * ys.getD k 0 * pw (i + k) + c * pw (i + k) := by rw [← Int.add_mul, ← Int.add_mul]
  have e3 : ai * ys.getD k 0 * pw (i + k) = ai * (ys.getD k 0 * pw k) * pw i := by rw [pw_add, Int.mul_comm (pw i), ← Int.mul_assoc, Int.mul_assoc ai]
  rw [Int.mul_add, Int.add_mul, ← e3, Int.sub_mul]
  omega

theorem mul_row {xs ys zs : List Int} {i : Nat} {c : Int} (hz : Ok zs) (hi : i + ys.length < zs.length) (hc : 0 ≤ c ∧ c < 65536) (h0 : ∀ j, i + ys.length ≤ j → zs.getD j 0 = 0)
    (hv : val zs + c * pw (i + ys.length) = val (xs.take i) * val ys + xs.getD i 0 * val (ys.take ys.length) * pw i) :
    Ok (zs.set (i + ys.length) c) ∧ val (zs.set (i + ys.length) c) = val (xs.take (i + 1)) * val ys ∧ ∀ j, i + 1 + ys.length ≤ j → (zs.set (i + ys.length) c).getD j 0 = 0 := by
  refine ⟨hz.set _ hc, ?_, ?_⟩
  · rw [val_set _ _ _ hi, h0 _ (Nat.le_refl _), val_take, Int.add_mul]
    rw [List.take_length] at hv
    have : xs.getD i 0 * val ys * pw i = xs.getD i 0 * pw i * val ys := by rw [Int.mul_right_comm]
    rw [Int.sub_zero]
    omega
  · intro j hj
    rw [List.getD_eq_getElem?_getD, List.getElem?_set_ne (by omega), ← List.getD_eq_getElem?_getD]
    exact h0 j (by omega)
theorem rep_zero (n j : Nat) : (List.replicate n (0 : Int)).getD j 0 = 0 := by
  rw [List.getD_eq_getElem?_getD, List.getElem?_replicate]; split <;> rfl
theorem set_zero_far {zs : List Int} {a j : Nat} {d : Int} (h0 : ∀ j, a ≤ j → zs.getD j 0 = 0) (hj : j < a) : ∀ j', a ≤ j' → (zs.set j d).getD j' 0 = 0 := by
  intro j' h
  rw [List.getD_eq_getElem?_getD, List.getElem?_set_ne (by omega), ← List.getD_eq_getElem?_getD]
  exact h0 j' h

/-- A row of ints that was written out. -/
theorem Digs.lit (w : World) (zs : List Int) (hl : zs.length ≤ 1048576) : Digs (w.alloc (.cells (zs.map (Value.int .i64)).toArray 3)) (some ⟨w.heap.size, 0, none⟩) zs.length zs.length zs := by
  refine ⟨rfl, Nat.le_refl _, hl, .inr ⟨w.heap.size, 0, rfl, by simp, ?_⟩⟩
  intro j hj
  rw [World.cell?_alloc_at _ _ _ _ rfl]
  simp [hj]
theorem Num.lit (w : World) (zs : List Int) (hl : zs.length ≤ 1048576) (ho : Ok zs) (ht : Trimmed zs) : Num (w.alloc (.cells (zs.map (Value.int .i64)).toArray 3)) (some ⟨w.heap.size, 0, none⟩) zs.length zs.length (val zs) zs.length :=
  ⟨zs, Digs.lit w zs hl, ho, ht, rfl, Nat.le_refl _⟩
theorem below_lit (w : World) (o : Obj) : Below w.heap.size w (w.alloc o) := (Below.refl _ _).alloc (Nat.le_refl _) o
theorem lit5 (w : World) : Num (w.alloc (.cells #[.int .i64 0, .int .i64 0, .int .i64 0, .int .i64 0, .int .i64 1] 3)) (some ⟨w.heap.size, 0, none⟩) 5 5 18446744073709551616 5 :=
  Num.lit w [0, 0, 0, 0, 1] (by decide) (by intro d hd; simp at hd; omega) (by intro _; decide)
theorem lit1 (w : World) : Num (w.alloc (.cells #[.int .i64 1] 3)) (some ⟨w.heap.size, 0, none⟩) 1 1 1 1 :=
  Num.lit w [1] (by decide) (by intro d hd; simp at hd; omega) (by intro _; decide)
theorem lit0 (w : World) : Num (w.alloc (.cells #[] 3)) (some ⟨w.heap.size, 0, none⟩) 0 0 0 0 :=
  Num.lit w [] (by decide) Ok.nil (fun h => absurd rfl h)

/-- What was there is there, step by step. -/
theorem Below.on {a b c : World} (h : Below a.heap.size a b) (k : Below b.heap.size b c) : Below a.heap.size a c := h.trans (k.mono h.size)

end Go.Proofs.YtncnilplmklccaaGreat

/- Contracts of package sponsionref02's Row and Int over this translation: a number's digits, and the number of digits. -/
namespace Go.Proofs.YtncnilplmklccaaGreat
open Go.RowKit Go.Lib

theorem pw4 (k : Nat) : pw (4 * k) = 18446744073709551616 ^ k := by
  unfold pw; rw [Int.pow_mul]; rfl
theorem lm_pw (a : Int) (k : Nat) : lm a k = a / pw (4 * k) % 18446744073709551616 := by rw [pw4]; rfl
theorem mod_step (a P B : Int) (hP : 0 < P) (hB : 0 < B) : a % (P * B) = a % P + a / P % B * P := by
  have h1 := Int.emod_nonneg a (show P ≠ 0 by omega)
  have h2 := Int.emod_lt_of_pos a hP
  have h3 := Int.emod_nonneg (a / P) (show B ≠ 0 by omega)
  have h4 := Int.emod_lt_of_pos (a / P) hB
  have e1 := Int.mul_ediv_add_emod a P
  have e2 := Int.mul_ediv_add_emod (a / P) B
  have h5 : a / P % B * P ≤ (B - 1) * P := Int.mul_le_mul_of_nonneg_right (by omega) (by omega)
  have h6 : 0 ≤ a / P % B * P := Int.mul_nonneg h3 (by omega)
  have e3 : a = (a % P + a / P % B * P) + P * B * (a / P / B) := by
    have : P * (a / P) = P * (B * (a / P / B) + a / P % B) := by rw [e2]
    rw [Int.mul_add, ← Int.mul_assoc, Int.mul_comm P (a / P % B)] at this
    omega
  have h7 : (B - 1) * P = P * B - P := by rw [Int.sub_mul, Int.one_mul, Int.mul_comm]
  have e4 : a % (P * B) = ((a % P + a / P % B * P) + P * B * (a / P / B)) % (P * B) := by rw [← e3]
  rw [e4, Int.add_mul_emod_self_left, Int.emod_eq_of_lt (by omega) (by omega)]
theorem row_step {zs : List Int} {y V : Int} (ho : Ok zs) (hv : val zs + y * pw zs.length = V) :
    Ok (zs ++ [y % 65536]) ∧ val (zs ++ [y % 65536]) + y / 65536 * pw (zs ++ [y % 65536]).length = V := by
  refine ⟨ho.append (Ok.one (by omega)), ?_⟩
  rw [val_snoc, List.length_append, List.length_singleton, pw_succ, ← hv]
  have e := split_digit y (pw zs.length)
  omega
theorem less_step {y : Int} {j : Nat} (hj : j < 4) (h : y < pw (4 - j)) : y / 65536 < pw (4 - (j + 1)) := by
  have e : 4 - j = (4 - (j + 1)) + 1 := by omega
  rw [e, pw_succ] at h
  exact Int.ediv_lt_of_lt_mul (by decide) h

theorem less_all {x : Int} (h : x < 18446744073709551616) : x < pw (4 - 0) := by
  rw [show pw (4 - 0) = 18446744073709551616 by decide]; exact h

set_option maxHeartbeats 1000000 in
theorem row_new (a : Int) (w : World) (h : In a) :
    Calls Tryz.prog 38 #[big a] w fun e w' => ∃ ao n cap, e = .returned (.slice ao n cap) ∧ Num w' ao n cap a 16 ∧ Below w.heap.size w w' ∧ New w ao := by
  have HI := hide h
  clear h
  have lb := fun k => lm_bd a k
  go_enter Tryz.func38, Tryz.ntmps38
  go_wp2
  go_loopw [3, 7] (fun v t wr => ∃ (k : Nat) (zs : List Int), t = .int .i64 k ∧ k ≤ 4 ∧ Made w wr v zs ∧ Ok zs ∧ zs.length = 4 * k ∧ val zs = a % pw (4 * k)) (fun _ t _ => 4 - (intOf t).toNat)
  case atStart => exact ⟨0, [], rfl, by omega, ⟨World.ownsRow_nil _ _ _ _, bAl (bMe w)⟩, Ok.nil, rfl, by simp [val, pw_zero]⟩
  case round =>
    obtain ⟨k, zs0, rfl, hk, hm0, ho0, hl0, hv0⟩ := hrel
    have HO0 := hide ho0; have HL0 := hide hl0; have HV0 := hide hv0
    clear ho0 hl0 hv0
    by_cases hlt : k < 4
    · have hix : ∀ wx, (Instr.index 29 (.agg #[.int .u64 (lm a 0), .int .u64 (lm a 1), .int .u64 (lm a 2), .int .u64 (lm a 3)]) (.int .i64 (k : Int))).run Tryz.prog wx = .ok (.int .u64 (lm a k)) wx := by
        intro wx
        match k, hlt with
        | 0, _ => exact idx0 _ _ _ _ _
        | 1, _ => exact idx1 _ _ _ _ _
        | 2, _ => exact idx2 _ _ _ _ _
        | 3, _ => exact idx3 _ _ _ _ _
      have hki : (k : Int) < 4 := by omega
      have x0 := (lb k).1
      have x1 := (lb k).2
      have EX : Hid (lm a k = a / pw (4 * k) % 18446744073709551616) := lm_pw a k
      generalize lm a k = x at *
      go_wp2
      go_loopw [3, 5, 10] (fun v t5 t wr => ∃ (j : Nat) (y : Int) (zs : List Int), t = .int .i64 j ∧ t5 = .int .u64 y ∧ j ≤ 4 ∧ 0 ≤ y ∧ y < 18446744073709551616 ∧ y < pw (4 - j) ∧ Made w wr v zs ∧ Ok zs ∧ zs.length = 4 * k + j ∧ val zs + y * pw zs.length = a % pw (4 * k) + x * pw (4 * k)) (fun _ _ t _ => 4 - (intOf t).toNat)
      case atStart => exact ⟨0, x, zs0, rfl, rfl, by omega, x0, x1, less_all x1, hm0, HO0.out, HL0.out, by rw [HV0.out, HL0.out]⟩
      case round =>
        obtain ⟨j, y, zs, rfl, rfl, hj, y0, y1, hy, hm, ho, hl, hv⟩ := hrel
        have HY := hide hy; have HO := hide ho; have HL := hide hl; have HV := hide hv
        clear hy ho hl hv
        by_cases hjl : j < 4
        · have hji : (j : Int) < 4 := by omega
          obtain ⟨s1, s2⟩ := row_step HO.out HV.out
          have S1 := hide s1; have S2 := hide s2
          have hl' : zs.length ≤ 1048576 := by have := HL.out; omega
          clear s1 s2
          go_wp2_with (at_builtin; refine app_int rfl _ _ rfl _ zs (y % 65536) rfl rfl hm hl' ?_)
          intro v' w1 hm'
          go_wp2
          go_roundw
          case rel => exact ⟨j + 1, y / 65536, zs ++ [y % 65536], by go_num, rfl, by omega, by omega, by omega, less_step hjl HY.out, hm', S1.out, by rw [List.length_append, HL.out]; rfl, S2.out⟩
          case measure => simp [intOf]; omega
        · obtain rfl : j = 4 := by omega
          have hy0 : Hid (y = 0) := by
            have := HY.out
            rw [show pw (4 - 4) = 1 from rfl] at this
            show y = 0
            omega
          go_wp2
          go_roundw
          case rel =>
            refine ⟨k + 1, zs, by go_num, by omega, hm, HO.out, by have := HL.out; omega, ?_⟩
            have := HV.out
            rw [hy0.out, Int.zero_mul, Int.add_zero] at this
            rw [this, EX.out, show 4 * (k + 1) = 4 * k + 4 by omega, pw_add, show pw 4 = 18446744073709551616 by decide, mod_step a _ _ (pw_pos _) (by decide)]
          case measure => simp [intOf]; omega
    · obtain rfl : k = 4 := by omega
      go_wp2_with fail
      obtain ⟨ao1, cap1, rfl, hd⟩ := hm0.digs (by have := HL0.out; omega)
      refine (trim_any (zs := zs0) hd HO0.out).mono ?_
      rintro e w2 ⟨ao2, n2, cap2, vs, rfl, t1, t2, t3, t4, t5, t6, rfl⟩
      have T4 := hide t4; have T5 := hide t5
      have T6 := hide (show New w ao2 from t6 ▸ hm0.new)
      clear t4 t5 t6
      go_wp2
      go_ret
      refine ⟨_, _, _, rfl, ⟨vs, t1, t2, t3, ?_, by have := t1.1; have := T5.out; have := HL0.out; omega⟩, hm0.2, T6.out⟩
      rw [T4.out, HV0.out]
      have hi := HI.out
      unfold In at hi
      rw [show pw (4 * 4) = 115792089237316195423570985008687907853269984665640564039457584007913129639936 by decide]
      omega
theorem row_of (a : Int) (w : World) (h : In a) :
    Calls Tryz.prog 38 #[big a] w fun e w' => ∃ ao n cap, e = .returned (.slice ao n cap) ∧ Num w' ao n cap a 16 ∧ Below w.heap.size w w' := by
  refine (row_new a w h).mono ?_
  rintro e w' ⟨ao, n, cap, h1, h2, h3, _⟩
  exact ⟨ao, n, cap, h1, h2, h3⟩
end Go.Proofs.YtncnilplmklccaaGreat
