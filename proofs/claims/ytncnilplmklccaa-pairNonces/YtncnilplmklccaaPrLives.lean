/- A pair where nothing is under way: each call as a law from that fact to that fact; the chapter's example. -/
import Derived.Test.YtncnilplmklccaaPrTry
import Derived.Test.YtncnilplmklccaaPrNew
namespace Go.Proofs.Ytncnilplmklccaa
set_option linter.unusedSimpArgs false
set_option linter.unusedVariables false
open Go.RowKit Go.Lib
attribute [local go_sem] setCell_drewN alloc_drewN

/-- The pair, with no deed under way: side s's book has L s, account i's next nonce is N's. -/
abbrev PQ (W w : World) (bp : Nat) (L : Nat → Kvs) (N : List Int) (Fr : Nat → Prop) : Prop := Pr W w bp [] 0 (fun s _ => L s) N Fr
theorem Pr.kp {W w w' : World} {bp n : Nat} {P : List Value} {H : Nat → Nat → Kvs} {N : List Int} {Fr : Nat → Prop} (p : Pr W w bp P n H N Fr) (hb : Below w.heap.size w w') : Kp Fr w w' := ⟨hb.size, fun k hk => hb.block k (p.low k hk)⟩
/-- Try, of a function that does nothing and answers OK. -/
theorem tryOk_any {W w : World} {bp f df : Nat} {L : Nat → Kvs} {N : List Int} {F : Nat → Prop} {x : Int} (he : ∀ w, (callFunc df #[]).run Try.prog w = .ok (.enter df #[]) w) (hd : ∀ w, Calls Try.prog df #[] w fun e w' => e = .returned (.int .i64 0) ∧ w' = w) (p : PQ W w bp L N F) (hf : f < 16) (hx : N[f]? = some x) (hx1 : x + 1 < 18446744073709551616) :
    Calls Try.prog 11 #[.pointer (some ⟨bp, 0, none⟩), .int .u8 f, .int .u64 x, .func (.func df) #[] #[]] w fun e w' => e = .returned (.int .i64 0) ∧ PQ W w' bp L (N.set f (x + 1)) F ∧ Kp F w w' := by
  refine (tryGo_any (D := fun E n' H' w4 w5 => E = 0 ∧ n' = 0 ∧ H' = (fun s _ => L s) ∧ w5 = w4) he p hf hx hx1 (fun w4 hb hz p4 => (hd w4).mono ?_)).mono ?_
  · rintro e w5 ⟨rfl, rfl⟩
    exact ⟨0, 0, _, rfl, p4, Nat.le_refl _, by omega, fun _ _ _ _ => rfl, fun _ _ _ => rfl, rfl, rfl, rfl, rfl⟩
  · rintro e w7 ⟨E, n', H', w4, w5, rfl, hb, ⟨rfl, rfl, rfl, rfl⟩, k, q, _⟩
    exact ⟨rfl, q rfl, (p.kp hb).trans k⟩
theorem lives14do_any (w : World) : Calls Try.prog 24 #[] w fun e w' => e = .returned (.int .i64 0) ∧ w' = w := by
  go_enter Try.func24, Try.ntmps24
  go_wp2
  go_ret
  exact ⟨rfl, rfl⟩
theorem enters_lives : ∀ w, (callFunc 24 #[]).run Try.prog w = .ok (.enter 24 #[]) w := fun w => enters_of Try.func24 (by kernel_rfl) rfl #[] w
set_option maxHeartbeats 1000000 in
theorem lives14_any (w : World) : Calls Try.prog 6 #[] w fun e w' => e = .returned (.bool true) ∧ Below w.heap.size w w' := by
  have HN := hide (new14_any (bMe w) (Fr := fun _ => False) (fun k h => h.elim))
  obtain ⟨bp, hbp⟩ : ∃ bp, w.heap.size = bp := ⟨_, rfl⟩
  rw [hbp] at HN
  rw [hbp]
  go_enter Try.func6, Try.ntmps6
  go_wp2_with fail
  refine HN.out.mono ?_
  clear HN
  rintro e w1 ⟨rfl, p1, _⟩
  obtain ⟨bj, b0, Fr', cb, _⟩ := p1.side (s := 0) (by omega)
  have C := hide (book14_any (s := 0) (by omega) cb)
  have C2 := hide (tryOk_any enters_lives lives14do_any p1 (f := 0) (x := 0) (by omega) rfl (by omega))
  clear p1 cb
  go_wp2_with fail
  refine C.out.mono ?_
  clear C
  rintro e w2 ⟨rfl, rfl⟩
  go_wp2_with fail
  refine C2.out.mono ?_
  clear C2
  rintro e w3 ⟨rfl, p3, _⟩
  have C := hide (tryNonce_any (nn := 0) (x := 1) (dv := .func (.func 24) #[] #[]) (f := 0) (by omega) (p3.cell rfl) (by omega))
  have P3 := hide p3
  clear p3
  go_wp2_with fail
  refine C.out.mono ?_
  clear C
  rintro e w4 ⟨rfl, hb4⟩
  have C2 := hide (tryOk_any enters_lives lives14do_any (P3.out.below hb4) (f := 0) (x := 1) (by omega) rfl (by omega))
  clear hb4 P3
  go_wp2_with fail
  refine C2.out.mono ?_
  clear C2
  rintro e w5 ⟨rfl, p5, _⟩
  have C := hide (nonce_any (a := 0) (by omega) (p5.cell (f := 0) rfl))
  have P5 := hide p5.be
  clear p5
  go_wp2_with fail
  refine C.out.mono ?_
  clear C
  rintro e w6 ⟨rfl, rfl⟩
  go_wp2
  go_ret
  rw [← hbp]
  exact ⟨rfl, P5.out⟩
end Go.Proofs.Ytncnilplmklccaa
