/- Arguments that are proofs, opened. -/
import Derived.Test.YtjkhboejhcbdpaaDoorFrameBl
import Derived.Test.YtjkhboejhcbdpaaDoorProofEq
import Derived.Deep.Slices
import Derived.ProofKit
import Derived.LaidMore
import Derived.WideWitness
namespace Go.Proofs.YtjkhboejhcbdpaaDoor
open Go.ChangeShapes Go.WideShapes Go.ChangeAt Go.RowKit

theorem cellsHsP : Tryd.prog.cellsOf 28 = 32 := by kernel_rfl
theorem pf_cells {H : Type} {enc : TypeId × Value → H} {W : World} {sp : Nat → Bool} {held : Bool} {fuel : Nat} {cs : List Value} {y : DataW H × List MemPlace}
    (h : DataW.trod enc Tryd.prog W 0 sp held fuel 29 cs = some y) : ∃ P : Pf, cs = rowV 1024 (pc P) ∧ Pok P := by
  obtain ⟨xs, m, _, _, hl, hxs, hh⟩ := DataW.trod_array Tryd.underlying29 h
  have hl32 : cs.length = 1024 := by rw [hl]; kernel_rfl
  have hsum : ∀ j, j < 32 → ∃ f : Hs, Hok f ∧ List.take 32 (List.drop (j * 32) cs) = rowV 32 f := by
    intro j hj
    obtain ⟨z, ez⟩ : ∃ z, xs[j]? = some z := ⟨xs[j], by simp [hxs, hj]⟩
    have f := (hh j hj).trans ez
    rw [cellsHsP] at f
    obtain ⟨g, hg, hb⟩ := hash_cells f
    exact ⟨g, hb, hg⟩
  haveI : Inhabited Hs := ⟨fun _ => 0⟩
  obtain ⟨f, hf⟩ := Go.Deep.choose_lt (α := Hs) (p := fun j f => Hok f ∧ List.take 32 (List.drop (j * 32) cs) = rowV 32 f) hsum
  refine ⟨fun k => if k < 32 then f k else hz, ?_, fun k => ?_⟩
  · apply List.ext_getElem?
    intro i
    by_cases hi : i < 1024
    · rw [rowV_get hi]
      have h1 := (hf (i / 32) (by omega)).2
      have h2 : (List.take 32 (List.drop (i / 32 * 32) cs))[i % 32]? = some (.int .u8 (f (i / 32) (i % 32))) := by rw [h1]; exact rowV_get (by omega)
      rw [List.getElem?_take, if_pos (by omega), List.getElem?_drop, show i / 32 * 32 + i % 32 = i by omega] at h2
      rw [h2]
      show _ = some (Value.int .u8 ((if i / 32 < 32 then f (i / 32) else hz) (i % 32)))
      rw [if_pos (by omega)]
    · rw [List.getElem?_eq_none (by omega), List.getElem?_eq_none (by rw [rowV_length]; omega)]
  · intro j
    simp only []
    split
    · rename_i hk; exact (hf k hk).1 j
    · exact pz_ok 0 j
set_option maxRecDepth 100000 in
theorem open_pf {H : Type} {enc : TypeId × Value → H} {W : World} {base : Nat} {sp : Nat → Bool} {held : Bool} {v : Value} {d : DataW H} {p : List MemPlace}
    (hv : Value.okWide Tryd.prog W .any base 29 v) (h : DataW.Trod enc Tryd.prog W 0 sp held 29 v d p) :
    ∃ P : Pf, v = .agg (rowV 1024 (pc P)).toArray ∧ Pok P := by
  obtain ⟨cs, rfl, hsz, _⟩ : ∃ cs, v = .agg cs ∧ cs.size = Tryd.prog.cellsOf 29 ∧ Row.okWide Tryd.prog W .any base 29 cs := by
    simpa [Value.okWide, Tryd.underlying29] using hv
  obtain ⟨fuel, hf⟩ := h
  obtain ⟨f, e, hb⟩ := pf_cells hf
  refine ⟨f, ?_, hb⟩
  have e' : cs.toList = rowV 1024 (pc f) := e
  rw [← e']
/-- A witness with a proof among its arguments: that the arguments are of their types is shown by parts, as the check of 1,024 cells in one go is too great. -/
theorem witness_parts {H : Type} {enc : TypeId × Value → H} {C : Checked} {os : Os} {f : FuncId} {fn : Func} {s : ChangeSpec} {conds : List PathCond} {apart : Bool} {X : World → Array Value → Prop} (modest : Bool) (w0 : World) (args : Array Value) (fuel : Nat) (hos : w0.os = os)
    (hsh : (w0.forCall (fun _ _ => 0) ⟨#[], args, []⟩).Shaped C.prog)
    (hok : Input.okWide C.prog (w0.forCall (fun _ _ => 0) ⟨#[], args, []⟩) .any w0.heap.size f ⟨#[], args, []⟩)
    (hpre : s.preB enc C.prog fn conds apart (w0.forCall (fun _ _ => 0) ⟨#[], args, []⟩).memory args fuel = true)
    (hsz : s.sizedB enc C.prog fn apart (w0.forCall (fun _ _ => 0) ⟨#[], args, []⟩).memory args fuel = true)
    (hx : X (w0.forCall (fun _ _ => 0) ⟨#[], args, []⟩).memory args) :
    ∃ (w : World) (tape : Tape) (i : Input), w.os = os ∧ (w.forCall tape i).Shaped C.prog ∧ i.vars = [] ∧ Input.okWide C.prog (w.forCall tape i) .any w.heap.size f i ∧
      ((s.pre enc C.prog fn conds apart (w.forCall tape i).memory i.args ∧ X (w.forCall tape i).memory i.args) ∧ sizedMet enc C.prog fn (OpenSpec.ofChange s) apart (w.forCall tape i).memory i.args) ∧ ({ modest := modest } : Assume).holds C.prog (lone (Frame.enter C.prog f i.args .normal) [] (w.forCall tape i)) :=
  ⟨w0, fun _ _ => 0, ⟨#[], args, []⟩, hos, hsh, rfl, hok, ⟨⟨ChangeSpec.pre_of_preB hpre, hx⟩, sizedMet_of_sizedB hsz⟩, by
    simp only [Assume.holds]
    exact ⟨by simp, by simp, fun _ => Modest.zero, by simp, by simp⟩⟩
theorem okWide_parts {P : Program} {w : World} {base : Nat} {f : FuncId} {fn : Func} {args : Array Value} (hfn : P.funcs[f]? = some fn) (hb : (fn.body.isSome && !fn.ours && fn.nfree == 0 && args.size == fn.params.size) = true)
    (hi : P.inits.idxOf? f = none) (h : ∀ (j : Nat) t v, fn.params[j]? = some t → args[j]? = some v → Value.okWide P w .any base t v) : Input.okWide P w .any base f ⟨#[], args, []⟩ := by
  simp only [Bool.and_eq_true, Bool.not_eq_true', beq_iff_eq] at hb
  obtain ⟨⟨⟨h1, h2⟩, h3⟩, h4⟩ := hb
  exact ⟨fun o ho => by simp at ho, by simp, hi, fn, hfn, h1, h2, h3, h4, h⟩
theorem pf_types : Tryd.prog.cellTypes Tryd.prog.depth 29 = some (List.replicate 1024 5) := by kernel_rfl
set_option maxRecDepth 100000 in
theorem pf_wide (w : World) (base : Nat) : Value.okWide Tryd.prog w .any base 29 (.agg (Array.replicate 1024 (.int .u8 0))) := by
  have h1 : Cell.okWide Tryd.prog w .any base 5 (.int .u8 0) := Cell.okWide_of_okWideB (by kernel_rfl)
  unfold Value.okWide
  simp only [Tryd.underlying29]
  refine ⟨_, rfl, by rw [Array.size_replicate]; kernel_rfl, _, pf_types, ⟨1, by rw [Array.size_replicate, List.length_replicate]⟩, fun i v hv => ?_⟩
  have hi : i < 1024 := by have := (Array.getElem?_eq_some_iff.1 hv).1; rwa [Array.size_replicate] at this
  rw [Array.getElem?_replicate, if_pos hi] at hv
  injection hv with hv
  subst hv
  refine ⟨5, ?_, h1⟩
  rw [List.length_replicate, List.getElem?_replicate, if_pos (by omega)]
end Go.Proofs.YtjkhboejhcbdpaaDoor
