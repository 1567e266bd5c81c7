/- The contracts of event.Of, event.picked and the function literal between them. -/
import Derived.Test.YtajkdbpojeaflaaEvtRows
import Derived.Test.YtajkdbpojeaflaaPackReader3
namespace Go.Proofs.Ytajkdbpojeaflaa
open Go.RowKit Go.Lib
attribute [local go_sem] setCell_drewN alloc_drewN eqHash

/-- Marks, as a program holds them. -/
def mkV (m : Nat → Bool) : List Value := (List.range 256).map fun j => .bool (m j)
theorem mkV_length (m : Nat → Bool) : (mkV m).length = 256 := by simp [mkV]
theorem mkV_get (m : Nat → Bool) {j : Nat} (h : j < 256) : (mkV m)[j]? = some (.bool (m j)) := by simp [mkV, h]
theorem VRow.mset {w : World} {g : Nat} {vs : List Value} (h : VRow w g vs) (j : Nat) (v : Value) : VRow (w.setCell ⟨g, j, none⟩ v) g (vs.set j v) := by
  refine ⟨by simpa [World.setCell] using h.lt, fun i u hu => ?_, fun o => by simp [go_sem, h.fr]⟩
  rw [Nat.zero_add]
  rw [List.getElem?_set] at hu
  by_cases e : j = i
  · subst e
    by_cases hl : j < vs.length
    · simp [hl] at hu; subst hu
      have hc := h.cell j (v := vs[j]) (by simp [hl])
      simp [go_sem, hc]
    · simp [hl] at hu
  · rw [if_neg e] at hu
    have hc := h.cell i hu
    simp [go_sem, hc]
/-- Is it among these? -/
def among (ks : List Int) (j : Nat) : Bool := ks.any fun d => d == (j : Int)
theorem mkV_set (ks : List Int) (d : Int) (j : Nat) (hd : d = (j : Int)) (hj : j < 256) : (mkV (among ks)).set j (.bool true) = mkV (among (ks ++ [d])) := by
  apply List.ext_getElem?
  intro i
  rw [List.getElem?_set]
  by_cases hi : i < 256
  · rw [mkV_get _ hi, mkV_get _ hi]
    by_cases e : j = i
    · subst e
      rw [if_pos rfl, if_pos (by rw [mkV_length]; exact hj)]
      subst hd
      simp [among]
    · rw [if_neg e]
      subst hd
      have : ¬ (j : Int) = (i : Int) := by omega
      simp [among, this]
  · rw [List.getElem?_eq_none (by rw [mkV_length]; omega), List.getElem?_eq_none (by rw [mkV_length]; omega)]
    by_cases e : j = i
    · omega
    · rw [if_neg e]
/-- Is it asked for? -/
def pick9 (f : Nat → Int) (ks : List Int) (x : Evt) : Bool := sameH x.h f && among ks x.k.toNat
theorem VRow.h9 {w : World} {g : Nat} {x : Evt} (h : VRow w g (ec x)) : w.rangeAt g 2 (rowV 32 x.h) := by
  intro j v hv
  have hj : j < 32 := by have := (List.getElem?_eq_some_iff.1 hv).1; rwa [rowV_length] at this
  rw [rowV_get hj] at hv
  injection hv with hv
  subst hv
  exact h.cell (2 + j) (ec_hash x hj)
set_option maxRecDepth 100000 in
set_option maxHeartbeats 4000000 in
theorem lit9_any {w : World} {gh gm : Nat} {f : Nat → Int} {ks : List Int} (hh : BRow w gh 32 f) (hm : VRow w gm (mkV (among ks))) (x : Evt) (hx : x.Ok) :
    Calls Try.prog 31 #[evV x, .pointer (some ⟨gh, 0, none⟩), .pointer (some ⟨gm, 0, none⟩)] w fun e w' => e = .returned (.bool (pick9 f ks x)) ∧ Below w.heap.size w w' := by
  obtain ⟨k0, k1⟩ := hx.k
  clear hx
  obtain ⟨kn, hkn⟩ : ∃ kn : Nat, x.k = (kn : Int) := ⟨x.k.toNat, by omega⟩
  have hkl : (kn : Int) < 256 := by omega
  have hkl2 : ¬ (256 : Int) ≤ (kn : Int) := by omega
  have V := hide (VRow.new w (ec x) 40)
  have B : Hid (Below w.heap.size w (w.alloc (.cells (ec x).toArray 40))) := bAl (bMe w)
  obtain ⟨w1, hw1⟩ : ∃ w1, w.alloc (.cells (ec x).toArray 40) = w1 := ⟨_, rfl⟩
  rw [hw1] at V B
  obtain ⟨g, hg⟩ : ∃ g, w.heap.size = g := ⟨_, rfl⟩
  rw [hg] at V
  have HH := hide (hh.after B.out rfl)
  have HM := hide (hm.after B.out rfl)
  have c0 := V.out.cell 0 rfl
  rw [hkn] at c0
  have cm := HM.out.cell kn (mkV_get _ (by omega))
  have uh := Try.underlying32
  clear hh hm
  have HP : Hid (pick9 f ks x = (sameH x.h f && among ks kn)) := by show _ = _; unfold pick9; rw [hkn]; rfl
  obtain ⟨q, hq⟩ : ∃ q, sameH x.h f = q := ⟨_, rfl⟩
  rw [hq] at HP
  cases q
  all_goals
    go_enter Try.func31, Try.ntmps31
    go_wp2_with (first
      | (refine wpList_load_mid rfl 32 _ rfl g 2 rfl (rowV 32 x.h) _ ?hr uh rfl (info_hsh _) ?_; (case hr => exact V.out.h9))
      | (refine wpList_load_mid rfl 32 _ rfl gh 0 rfl (rowV 32 f) _ ?hr uh rfl (info_hsh _) ?_; (case hr => exact HH.out.range)))
    go_ret
    exact ⟨ret_boolE (by rw [HP.out]; simp), by first | exact B.out | (rw [← hg]; exact B.out)⟩
set_option maxRecDepth 100000 in
set_option maxHeartbeats 4000000 in
theorem picked9_any {w : World} {ao : Option Addr} {cap : Nat} {xs : List Evt} {gh gm : Nat} {f : Nat → Int} {ks : List Int} (h : Evs w ao xs) (hok : ∀ x ∈ xs, Evt.Ok x) (hl : xs.length ≤ 100) (hh : BRow w gh 32 f) (hm : VRow w gm (mkV (among ks))) :
    Calls Try.prog 30 #[.slice ao xs.length cap, .func (.func 31) #[] #[.pointer (some ⟨gh, 0, none⟩), .pointer (some ⟨gm, 0, none⟩)]] w fun e w' => ∃ v, e = .returned v ∧ Es 40 w w' v (xs.filter (pick9 f ks)) := by
  have HA := hide h; have HO := hide hok; have HLN := hide hl; have HH := hide hh; have HM := hide hm
  clear h hok hh hm
  go_enter Try.func30, Try.ntmps30
  go_wp2
  go_loopg [5, 10] xs.length (fun gk v i wr => ∃ k : Nat, gk + k = xs.length ∧ i = .int .i64 k ∧ Es 40 w wr v ((xs.take k).filter (pick9 f ks)))
  case atStart => exact ⟨0, by omega, rfl, Es.nil _ _⟩
  case round =>
    obtain ⟨k, hk, rfl, hs⟩ := hrel
    have S := hide hs; have HK := hide hk
    clear hs hk
    by_cases hlt : k < xs.length
    · have hki : (k : Int) < (xs.length : Int) := by omega
      obtain ⟨x, hx⟩ : ∃ x, xs[k]? = some x := ⟨xs[k], by simp [hlt]⟩
      have HX := hide (HO.out x (List.mem_of_getElem? hx))
      obtain ⟨b, off, rfl, hr⟩ := (HA.out.below S.out.below).get hx
      have R : Hid (wr.rangeAt b (off + k * 47) (ec x)) := hr
      have HT : Hid (xs.take (k + 1) = xs.take k ++ [x]) := by show _ = _; rw [List.take_add_one, hx]; rfl
      have hlk : ((xs.take k).filter (pick9 f ks)).length ≤ 100000 := by
        have h1 := List.length_filter_le (pick9 f ks) (xs.take k)
        have h2 : (xs.take k).length ≤ xs.length := by simp; omega
        omega
      clear hr hx
      go_wp2_with (refine wpList_load_mid rfl 40 _ rfl b (off + k * 47) rfl (ec x) _ R.out Try.underlying40 rfl (info_evt x) ?_)
      rw [storing_new wr _ 40 (ec x) (by rw [ec_length]; rfl) (ec_one _)]
      obtain ⟨V, B2⟩ := copiedE wr x
      have HV := hide V
      replace S := hide (S.out.after B2)
      clear V B2 R
      generalize (wr.alloc (.cells #[.int .u8 0, .int .u64 0, .int .u8 0, .int .u8 0, .int .u8 0, .int .u8 0, .int .u8 0, .int .u8 0, .int .u8 0, .int .u8 0, .int .u8 0, .int .u8 0, .int .u8 0, .int .u8 0, .int .u8 0, .int .u8 0, .int .u8 0, .int .u8 0, .int .u8 0, .int .u8 0, .int .u8 0, .int .u8 0, .int .u8 0, .int .u8 0, .int .u8 0, .int .u8 0, .int .u8 0, .int .u8 0, .int .u8 0, .int .u8 0, .int .u8 0, .int .u8 0, .int .u8 0, .int .u8 0, .int .u8 0, .int .u8 0, .int .u8 0, .int .u8 0, .int .u64 0, .int .u64 0, .int .u64 0, .int .u64 0, .int .u64 0, .int .u64 0, .int .u64 0, .int .u64 0, .int .u32 0] 40)).setCells wr.heap.size 0 (ec x) = w4 at *
      generalize wr.heap.size = gx at *
      go_wp2_with (refine wpList_load_mid rfl 40 _ rfl gx 0 rfl (ec x) _ HV.out.range Try.underlying40 rfl (info_evt x) ?_)
      refine (lit9_any (HH.out.after S.out.below rfl) (HM.out.after S.out.below rfl) x HX.out).mono ?_
      rintro e w5 ⟨rfl, hb⟩
      replace S := hide (S.out.after hb)
      replace HV := hide (HV.out.after hb rfl)
      clear hb
      have HF : Hid ((xs.take (k + 1)).filter (pick9 f ks) = (xs.take k).filter (pick9 f ks) ++ if pick9 f ks x = true then [x] else []) := by
        show _ = _
        rw [HT.out, List.filter_append]
        congr 1
        cases hp : pick9 f ks x <;> simp [List.filter, hp]
      generalize (xs.take k).filter (pick9 f ks) = ls at *
      cases hp : pick9 f ks x with
      | true =>
        rw [hp] at HF
        have HF2 : Hid ((xs.take (k + 1)).filter (pick9 f ks) = ls ++ [x]) := HF.out
        clear HF
        go_wp2_with (first
          | refine wpList_load_mid rfl 40 _ rfl gx 0 rfl (ec x) _ HV.out.range Try.underlying40 rfl (info_evt x) ?_
          | refine build_evE rfl _ rfl x rfl ?_
          | (at_builtin; refine app_evE rfl _ _ rfl _ ls x rfl rfl S.out hlk ?_))
        intro v' w6 hs1 _ _
        have S1 := hide hs1
        clear hs1
        go_wp2
        go_roundg (xs.length - k - 1)
        case measure => have := HK.out; omega
        case rel => exact ⟨k + 1, by omega, by go_num, by rw [HF2.out]; exact S1.out⟩
      | false =>
        rw [hp] at HF
        have HF2 : Hid ((xs.take (k + 1)).filter (pick9 f ks) = ls) := by show _ = _; have := HF.out; simpa using this
        clear HF
        go_wp2
        go_roundg (xs.length - k - 1)
        case measure => have := HK.out; omega
        case rel => exact ⟨k + 1, by omega, by go_num, by rw [HF2.out]; exact S.out⟩
    · obtain rfl : k = xs.length := by have := HK.out; omega
      rw [List.take_length] at S
      go_wp2
      go_ret
      exact ⟨_, rfl, S.out⟩
theorem zero_marks (w : World) : (zeroValue 71).run Try.prog w = .ok (.agg (mkV (among [])).toArray) w := by kernel_rfl
set_option maxRecDepth 100000 in
set_option maxHeartbeats 4000000 in
theorem of9_any {w : World} {ao ko : Option Addr} {cap kc : Nat} {xs : List Evt} {ks : List Int} (f : Nat → Int) (h : Evs w ao xs) (hok : ∀ x ∈ xs, Evt.Ok x) (hl : xs.length ≤ 100) (hk : At w ko ks) (hkb : Byt ks) (hkl : ks.length ≤ 100) :
    Calls Try.prog 16 #[.slice ao xs.length cap, .agg (rowV 32 f).toArray, .slice ko ks.length kc] w fun e w' => ∃ v, e = .returned v ∧ Below w.heap.size w w' ∧ ∃ w2, Es 40 w2 w' v (xs.filter (pick9 f ks)) ∧ w.heap.size ≤ w2.heap.size := by
  have HA := hide h; have HO := hide hok; have HLN := hide hl; have HK := hide hk; have HB := hide hkb; have HKL := hide hkl
  clear h hok hk hkb
  have hz := fun w => zero_marks w
  go_enter Try.func16, Try.ntmps16
  go_wp2
  have H0 := hide (hash_new w f 32 rfl)
  have B0 : Hid (Below w.heap.size w (w.alloc (.cells (rowV 32 f).toArray 32))) := bAl (bMe w)
  have HZ : Hid ((w.alloc (.cells (rowV 32 f).toArray 32)).heap.size = w.heap.size + 1) := by show _ = _; simp
  have M0 := hide (VRow.new (w.alloc (.cells (rowV 32 f).toArray 32)) (mkV (among [])) 71)
  rw [HZ.out] at M0
  replace H0 := hide (H0.out.past (.cells (mkV (among [])).toArray 71))
  replace B0 := hide (bAl (o := .cells (mkV (among [])).toArray 71) B0.out)
  clear HZ hz
  generalize (w.alloc (.cells (rowV 32 f).toArray 32)).alloc (.cells (mkV (among [])).toArray 71) = w1 at *
  obtain ⟨gm, hgm⟩ : ∃ gm, w.heap.size + 1 = gm := ⟨_, rfl⟩
  rw [hgm] at M0
  simp only [hgm]
  have HGM := hide hgm
  clear hgm
  obtain ⟨gh, hgh⟩ : ∃ gh, w.heap.size = gh := ⟨_, rfl⟩
  rw [hgh] at H0 HGM
  simp only [hgh]
  have HGH := hide hgh
  clear hgh
  go_loopw [12] (fun t wr => ∃ k : Nat, k ≤ ks.length ∧ t = .int .i64 k ∧ BRow wr gh 32 f ∧ VRow wr gm (mkV (among (ks.take k))) ∧ Below w.heap.size w wr) (fun t _ => ks.length - (intOf t).toNat)
  case atStart => exact ⟨0, by omega, rfl, H0.out, M0.out, B0.out⟩
  case round =>
    clear H0 M0 B0
    obtain ⟨k, hk, rfl, hh, hm, hb⟩ := hrel
    have H0 := hide hh; have M0 := hide hm; have B0 := hide hb
    clear hh hm hb
    by_cases hlt : k < ks.length
    · have hki : (k : Int) < (ks.length : Int) := by omega
      obtain ⟨d, hd⟩ : ∃ d, ks[k]? = some d := ⟨ks[k], by simp [hlt]⟩
      have hdb : 0 ≤ d ∧ d < 256 := HB.out d (List.mem_of_getElem? hd)
      obtain ⟨dn, hdn⟩ : ∃ dn : Nat, d = (dn : Int) := ⟨d.toNat, by omega⟩
      have hdl : dn < 256 := by omega
      have hdi : (dn : Int) < 256 := by omega
      have hdi2 : ¬ (256 : Int) ≤ (dn : Int) := by omega
      have HT : Hid (ks.take (k + 1) = ks.take k ++ [d]) := by show _ = _; rw [List.take_add_one, hd]; rfl
      have hgd : ks.getD k 0 = (dn : Int) := by rw [List.getD_eq_getElem?_getD, hd, ← hdn]; rfl
      obtain ⟨b, off, rfl, ck⟩ : ∃ b off, ko = some ⟨b, off, none⟩ ∧ wr.cell? ⟨b, off + k, none⟩ = some (.int .u8 (dn : Int)) := by
        rcases HK.out.below B0.out with h0 | ⟨b, off, e, hbl, hc⟩
        · rw [h0] at hlt; simp at hlt
        · exact ⟨b, off, e, by rw [hc k hlt, hgd]⟩
      have cm := M0.out.cell dn (mkV_get _ hdl)
      have fm := M0.out.fr dn
      have M2 := hide (M0.out.mset dn (.bool true))
      rw [mkV_set _ d dn hdn hdl, ← HT.out] at M2
      have H2 := hide (H0.out.other (p := ⟨gm, dn, none⟩) (by have := HGM.out; simp only []; omega) (.bool true))
      have B2 : Hid (Below w.heap.size w (wr.setCell ⟨gm, dn, none⟩ (.bool true))) := B0.out.setCell (by have := HGM.out; have := HGH.out; simp only []; omega) _
      clear hd hdb hdn hgd
      go_wp2
      go_roundw
      case rel => exact ⟨k + 1, by omega, by go_num, H2.out, M2.out, B2.out⟩
      case measure => simp [intOf]; omega
    · obtain rfl : k = ks.length := by omega
      rw [List.take_length] at M0
      have hmf : ∀ (fn : Fn) (first cap : Array Value) (w : World), (Instr.makeFunc fn first cap).run Try.prog w = .ok (.func fn first cap) w := fun _ _ _ _ => rfl
      go_wp2_with fail
      refine (picked9_any (HA.out.below B0.out) HO.out (by omega) H0.out M0.out).mono ?_
      rintro e w5 ⟨v, rfl, hv⟩
      have S := hide hv
      clear hv
      go_wp2
      go_ret
      exact ⟨_, rfl, bOn B0.out S.out.below, wr, S.out, B0.out.size⟩
end Go.Proofs.Ytajkdbpojeaflaa
