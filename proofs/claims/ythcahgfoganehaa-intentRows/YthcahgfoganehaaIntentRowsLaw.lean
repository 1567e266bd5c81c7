/- The walk of sponsionlaw07.IntentRows over this translation. -/
import Derived.Test.YthcahgfoganehaaItnRef
import Derived.Test.YthcahgfoganehaaItns
import Derived.Deep.MidRow
namespace Go.Proofs.Ythcahgfoganehaa
open Go.RowKit Go.Lib
attribute [local go_sem] setCell_drewN alloc_drewN eqInt9

theorem info_itn (x : Itn) : (Try.prog.info? 29).map (·.size) = some (itnL x).length := by
  show _ = some 7
  kernel_rfl
/-- What stands while intents are written. -/
structure LS1 (w0 w : World) (g : Nat) (ao : Option Addr) (cap : Nat) (L : List Int) : Prop where
  wtr : Wtr w g ao cap L
  low : w0.heap.size ≤ g
  below : Below w0.heap.size w0 w
theorem LS1.after {w0 w w' : World} {g cap : Nat} {ao : Option Addr} {L : List Int} (h : LS1 w0 w g ao cap L) (hb : Below w.heap.size w w') : LS1 w0 w' g ao cap L := ⟨h.wtr.after hb rfl, h.low, bOn h.below hb⟩
theorem LS1.put {w0 w w' : World} {g cap cap' : Nat} {ao ao' : Option Addr} {L L' : List Int} (h : LS1 w0 w g ao cap L) (hw : Wtr w' g ao' cap' L') (hr : Wrote g ao ao' w w') : LS1 w0 w' g ao' cap' L' :=
  ⟨hw, h.low, hr.below h.below h.low (fun k hk => by have := (h.wtr.row k hk).1; have := h.low; omega)⟩
/-- What stands while they are read. -/
structure LS2 (w0 w : World) (g : Nat) (rb : Option Nat) (L : List Int) (E : Int) : Prop where
  rdr : Rdr w g rb L E
  low : w0.heap.size ≤ g
  below : Below w0.heap.size w0 w
theorem LS2.after {w0 w w' : World} {g : Nat} {rb : Option Nat} {L : List Int} {E : Int} (h : LS2 w0 w g rb L E) (hb : Below w.heap.size w w') : LS2 w0 w' g rb L E := ⟨h.rdr.after hb rfl, h.low, bOn h.below hb⟩
theorem LS2.read {w0 w w' : World} {g : Nat} {rb : Option Nat} {L L' : List Int} {E E' : Int} (h : LS2 w0 w g rb L E) (hr : Rdr w' g rb L' E') (hb : Bar g w w') : LS2 w0 w' g rb L' E' := ⟨hr, h.low, hb.below h.below h.low h.below.size⟩
/-- How far it went well: what is left, the error, what is told. -/
def Far (xs : List Itn) (k : Nat) (bad : Bool) (L : List Int) (E : Int) : Prop := (bad = false ∧ L = allB (xs.drop k) ∧ E = 0) ∨ (bad = true ∧ L = [] ∧ E = 6)
theorem Far.byt {xs : List Itn} {k : Nat} {bad : Bool} {L : List Int} {E : Int} (h : Far xs k bad L E) : Byt L := by
  rcases h with ⟨_, rfl, _⟩ | ⟨_, rfl, _⟩
  · exact allB_byt _
  · intro x hx; simp at hx
/-- A reader that failed. -/
theorem Got.bad {x : Itn} {l' : List Int} {e' : Int} (h : Got [] 6 x l' e') : x = noItn ∧ l' = [] ∧ e' = 6 := by
  rcases h with ⟨h, _⟩ | ⟨h, _⟩ | ⟨_, h1, h2, h3⟩
  · omega
  · omega
  · exact ⟨h1, h2, h3⟩
theorem Got.short {x : Itn} {l' : List Int} {e' : Int} (h : Got [] 0 x l' e') : x = noItn ∧ l' = [] ∧ e' = 4 := by
  rcases h with ⟨_, h, _⟩ | ⟨_, h, _⟩ | ⟨_, h1, h2, h3⟩
  · simp at h
  · simp at h
  · exact ⟨h1, h2, h3⟩
theorem Got.next {x y : Itn} {r l' : List Int} {e' : Int} (hx : x.Ok) (h : Got (ibytes x ++ r) 0 y l' e') : (may x = true → y = x ∧ l' = r ∧ e' = 0) ∧ (may x = false → y = noItn ∧ l' = [] ∧ e' = 6) := by
  unfold Got at h
  rw [iof_ibytes hx r] at h
  have hl : 38 ≤ (ibytes x ++ r).length := by rw [List.length_append, ibytes_length]; omega
  have hd : (ibytes x ++ r).drop 38 = r := List.drop_left' (ibytes_length x)
  rw [hd] at h
  rcases h with ⟨_, _, h1, h2, h3, h4⟩ | ⟨_, _, h1, h2, h3, h4⟩ | ⟨h1, _⟩
  · exact ⟨fun _ => ⟨h2, h3, h4⟩, fun h => absurd (h1.symm.trans h) (by decide)⟩
  · exact ⟨fun h => absurd (h1.symm.trans h) (by decide), fun _ => ⟨h2, h3, h4⟩⟩
  · rcases h1 with h1 | h1
    · exact absurd rfl h1
    · omega
theorem no7 {x : Itn} (h : x = noItn) : x.i = 0 ∧ x.t = 0 ∧ x.o = 0 ∧ same4 (lm x.a 0) (lm x.a 1) (lm x.a 2) (lm x.a 3) 0 0 0 0 = true := by
  subst h
  refine ⟨rfl, rfl, rfl, ?_⟩
  show same4 (lm 0 0) (lm 0 1) (lm 0 2) (lm 0 3) 0 0 0 0 = true
  rw [lm_zero, lm_zero, lm_zero, lm_zero]; rfl
set_option maxRecDepth 100000 in
set_option maxHeartbeats 8000000 in
theorem intentRows_walk (ao : Option Addr) (cap : Nat) (xs : List Itn) (w : World) (hbs : xs.length ≤ cap ∧ cap ≤ maxLen ∧ Itns w ao xs ∧ ∀ x ∈ xs, Itn.Ok x) :
    Calls Try.prog 4 #[.slice ao xs.length cap] w fun e w' => e = .returned (.bool true) ∧ Below w.heap.size w w' := by
  obtain ⟨h1, h2, h3, h4⟩ := hbs
  have HA := hide h3; have HO := hide h4
  clear h3 h4
  by_cases hlen : xs.length ≤ 20
  · have hli : ¬ (20 : Int) < (xs.length : Int) := by omega
    have HLN := hide hlen
    go_enter Try.func4, Try.ntmps4
    go_wp2_with fail
    refine (lives7_any w).mono ?_
    rintro e w1 ⟨rfl, hb⟩
    have B := hide hb
    clear hb
    go_wp2
    have L := hide (LS1.mk (Wtr.new w1 42) B.out.size (bAl B.out))
    generalize w1.alloc (.cells #[.slice none 0 0] 42) = w2 at *
    generalize w1.heap.size = g at *
    clear B
    go_loopw [24] (fun t wr => ∃ (k : Nat) (ao' : Option Addr) (cap' : Nat), k ≤ xs.length ∧ t = .int .i64 k ∧ LS1 w wr g ao' cap' (allB (xs.take k))) (fun t _ => xs.length - (intOf t).toNat)
    case atStart => exact ⟨0, _, _, by omega, rfl, by simpa [allB] using L.out⟩
    case round =>
      clear L
      obtain ⟨k, ao', cap', hk, rfl, hl⟩ := hrel
      have L := hide hl
      clear hl
      by_cases hlt : k < xs.length
      · have hki : (k : Int) < (xs.length : Int) := by omega
        obtain ⟨x, hx⟩ : ∃ x, xs[k]? = some x := ⟨xs[k], by simp [hlt]⟩
        have HX := hide (HO.out x (List.mem_of_getElem? hx))
        obtain ⟨b, off, rfl, hr⟩ := (HA.out.below L.out.below).get hx
        have R : Hid (wr.rangeAt b (off + k * 7) [.int .u32 x.i, .int .u8 x.t, .int .u8 x.o, .int .u64 (lm x.a 0), .int .u64 (lm x.a 1), .int .u64 (lm x.a 2), .int .u64 (lm x.a 3)]) := hr
        have HN := hide (allB_snoc hx)
        have HLL : Hid ((allB (xs.take k)).length ≤ 900000) := by show _ ≤ _; rw [allB_length]; simp; omega
        clear hr hx
        go_wp2_with (refine wpList_load_mid rfl 29 _ rfl b (off + k * 7) rfl [.int .u32 x.i, .int .u8 x.t, .int .u8 x.o, .int .u64 (lm x.a 0), .int .u64 (lm x.a 1), .int .u64 (lm x.a 2), .int .u64 (lm x.a 3)] _ R.out Try.underlying29 rfl (info_itn x) ?_)
        replace L := hide (L.out.after (bAl (o := .cells #[.int .u32 x.i, .int .u8 x.t, .int .u8 x.o, .int .u64 (lm x.a 0), .int .u64 (lm x.a 1), .int .u64 (lm x.a 2), .int .u64 (lm x.a 3)] 29) (bMe wr)))
        generalize wr.alloc (.cells #[.int .u32 x.i, .int .u8 x.t, .int .u8 x.o, .int .u64 (lm x.a 0), .int .u64 (lm x.a 1), .int .u64 (lm x.a 2), .int .u64 (lm x.a 3)] 29) = w3 at *
        refine (put_any L.out.wtr x HX.out HLL.out).mono ?_
        rintro e w4 ⟨rfl, ao2, cap2, hw, hr⟩
        replace L := hide (L.out.put hw hr)
        rw [← HN.out] at L
        clear hw hr
        go_wp2
        go_roundw
        case rel => exact ⟨k + 1, ao2, cap2, by omega, by go_num, L.out⟩
        case measure => simp [intOf]; omega
      · obtain rfl : k = xs.length := by omega
        rw [List.take_length] at L
        go_wp2_with fail
        refine (wbytes_any L.out.wtr (by rw [allB_length]; omega)).mono ?_
        rintro e w3 ⟨v, rfl, hv, hb⟩
        obtain ⟨bo, bc, rfl, -, -, k3⟩ := hv.cell
        have A := hide k3
        have AN : Hid (bo = none → bc = 0) := hv.at.2
        have B := hide (bOn L.out.below hb)
        clear hv hb k3 L
        go_wp2_with fail
        refine (rof_any bo bc (allB xs) A.out AN.out (by rw [allB_length]; omega)).mono ?_
        rintro e w4 ⟨g2, rb, rfl, hr, hg, hrb, hb⟩
        have L : Hid (LS2 w w4 g2 rb (allB xs) 0) := ⟨hr, Nat.le_trans B.out.size hg, bOn B.out hb⟩
        clear hr hg hrb hb A AN B
        go_wp2
        go_loopw [7, 37] (fun t7 t wr => ∃ (k : Nat) (bad : Bool) (l : List Int) (E : Int), k ≤ xs.length ∧ t = .int .i64 k ∧ t7 = .bool bad ∧ LS2 w wr g2 rb l E ∧ Far xs k bad l E) (fun _ t _ => xs.length - (intOf t).toNat)
        case atStart => exact ⟨0, false, _, 0, by omega, rfl, rfl, L.out, .inl ⟨rfl, rfl, rfl⟩⟩
        case round =>
          clear L
          obtain ⟨k, bad, l, E, hk, rfl, rfl, hl, hf⟩ := hrel
          have L := hide hl
          have F := hide hf
          clear hl hf
          by_cases hlt : k < xs.length
          · have hki : (k : Int) < (xs.length : Int) := by omega
            obtain ⟨x, hx⟩ : ∃ x, xs[k]? = some x := ⟨xs[k], by simp [hlt]⟩
            have HX := hide (HO.out x (List.mem_of_getElem? hx))
            obtain ⟨b, off, rfl, hr⟩ := (HA.out.below L.out.below).get hx
            have R : Hid (wr.rangeAt b (off + k * 7) [.int .u32 x.i, .int .u8 x.t, .int .u8 x.o, .int .u64 (lm x.a 0), .int .u64 (lm x.a 1), .int .u64 (lm x.a 2), .int .u64 (lm x.a 3)]) := hr
            have HD := hide (allB_drop hx)
            clear hr hx
            rcases F.out with ⟨f1, f2, f3⟩ | ⟨f1, f2, f3⟩
            · rw [HD.out] at f2
              subst f1 f2 f3
              clear F
              go_wp2_with (refine wpList_load_mid rfl 29 _ rfl b (off + k * 7) rfl [.int .u32 x.i, .int .u8 x.t, .int .u8 x.o, .int .u64 (lm x.a 0), .int .u64 (lm x.a 1), .int .u64 (lm x.a 2), .int .u64 (lm x.a 3)] _ R.out Try.underlying29 rfl (info_itn x) ?_)
              have L0 := L
              have P := hide (Bx.new wr x.i x.t x.o (lm x.a 0) (lm x.a 1) (lm x.a 2) (lm x.a 3) 29 rfl)
              replace L := hide (L.out.after (bAl (o := .cells #[.int .u32 x.i, .int .u8 x.t, .int .u8 x.o, .int .u64 (lm x.a 0), .int .u64 (lm x.a 1), .int .u64 (lm x.a 2), .int .u64 (lm x.a 3)] 29) (bMe wr)))
              have NE : Hid (wr.heap.size ≠ g2) := Nat.ne_of_gt L0.out.rdr.lt.1
              clear L0
              generalize wr.alloc (.cells #[.int .u32 x.i, .int .u8 x.t, .int .u8 x.o, .int .u64 (lm x.a 0), .int .u64 (lm x.a 1), .int .u64 (lm x.a 2), .int .u64 (lm x.a 3)] 29) = w5 at *
              generalize wr.heap.size = g9 at *
              refine (may_any x HX.out w5).mono ?_
              rintro r w6 ⟨rfl, hb⟩
              replace L := hide (L.out.after hb)
              replace P := hide (P.out.after hb rfl)
              clear hb
              cases hm : may x with
              | true =>
                go_wp2_with fail
                refine (get_any L.out.rdr ((ibytes_byt x).app (allB_byt _))).mono ?_
                rintro r w6 ⟨y, l', e', rfl, hg, hr, hb⟩
                obtain ⟨rfl, rfl, rfl⟩ := (hg.next HX.out).1 hm
                replace P := hide (P.out.bar hb NE.out)
                replace L := hide (L.out.read hr hb)
                have hs4 := same4_me y.a
                obtain ⟨p0, p1, p2, p3, p4, p5, p6, p7, p8⟩ := P.out
                clear hg hr hb P
                go_wp2_with fail
                replace L := hide (L.out.after (bAl (o := .cells #[.int .u32 y.i, .int .u8 y.t, .int .u8 y.o, .int .u64 (lm y.a 0), .int .u64 (lm y.a 1), .int .u64 (lm y.a 2), .int .u64 (lm y.a 3)] 29) (bMe w6)))
                refine (err_any L.out.rdr).mono ?_
                rintro r w7 ⟨rfl, rfl⟩
                go_wp2
                go_roundw
                case rel => exact ⟨k + 1, false, _, 0, by omega, by go_num, rfl, L.out, .inl ⟨rfl, rfl, rfl⟩⟩
                case measure => simp [intOf]; omega
              | false =>
                go_wp2_with fail
                refine (get_any L.out.rdr ((ibytes_byt x).app (allB_byt _))).mono ?_
                rintro r w6 ⟨y, l', e', rfl, hg, hr, hb⟩
                obtain ⟨hy, rfl, rfl⟩ := (hg.next HX.out).2 hm
                replace L := hide (L.out.read hr hb)
                obtain ⟨hs1, hs2, hs3, hs4⟩ := no7 hy
                clear hg hr hb P hy
                go_wp2_with fail
                replace L := hide (L.out.after (bAl (o := .cells #[.int .u32 0, .int .u8 0, .int .u8 0, .int .u64 (lm y.a 0), .int .u64 (lm y.a 1), .int .u64 (lm y.a 2), .int .u64 (lm y.a 3)] 29) (bMe w6)))
                refine (err_any L.out.rdr).mono ?_
                rintro r w7 ⟨rfl, rfl⟩
                go_wp2
                go_roundw
                case rel => exact ⟨k + 1, true, [], 6, by omega, by go_num, rfl, L.out, .inr ⟨rfl, rfl, rfl⟩⟩
                case measure => simp [intOf]; omega
            · subst f1 f2 f3
              clear F
              go_wp2_with (refine wpList_load_mid rfl 29 _ rfl b (off + k * 7) rfl [.int .u32 x.i, .int .u8 x.t, .int .u8 x.o, .int .u64 (lm x.a 0), .int .u64 (lm x.a 1), .int .u64 (lm x.a 2), .int .u64 (lm x.a 3)] _ R.out Try.underlying29 rfl (info_itn x) ?_)
              replace L := hide (L.out.after (bAl (o := .cells #[.int .u32 x.i, .int .u8 x.t, .int .u8 x.o, .int .u64 (lm x.a 0), .int .u64 (lm x.a 1), .int .u64 (lm x.a 2), .int .u64 (lm x.a 3)] 29) (bMe wr)))
              generalize wr.alloc (.cells #[.int .u32 x.i, .int .u8 x.t, .int .u8 x.o, .int .u64 (lm x.a 0), .int .u64 (lm x.a 1), .int .u64 (lm x.a 2), .int .u64 (lm x.a 3)] 29) = w5 at *
              refine (get_any L.out.rdr (fun x hx => by simp at hx)).mono ?_
              rintro r w6 ⟨y, l', e', rfl, hg, hr, hb⟩
              obtain ⟨hy, rfl, rfl⟩ := hg.bad
              replace L := hide (L.out.read hr hb)
              obtain ⟨hs1, hs2, hs3, hs4⟩ := no7 hy
              clear hg hr hb hy
              go_wp2_with fail
              replace L := hide (L.out.after (bAl (o := .cells #[.int .u32 0, .int .u8 0, .int .u8 0, .int .u64 (lm y.a 0), .int .u64 (lm y.a 1), .int .u64 (lm y.a 2), .int .u64 (lm y.a 3)] 29) (bMe w6)))
              refine (err_any L.out.rdr).mono ?_
              rintro r w7 ⟨rfl, rfl⟩
              go_wp2
              go_roundw
              case rel => exact ⟨k + 1, true, [], 6, by omega, by go_num, rfl, L.out, .inr ⟨rfl, rfl, rfl⟩⟩
              case measure => simp [intOf]; omega
          · obtain rfl : k = xs.length := by omega
            have hd : allB (xs.drop xs.length) = [] := by simp [allB]
            rcases F.out with ⟨f1, f2, f3⟩ | ⟨f1, f2, f3⟩
            · rw [hd] at f2
              subst f1 f2 f3
              clear F hd
              go_wp2_with fail
              refine (get_any L.out.rdr (fun x hx => by simp at hx)).mono ?_
              rintro r w6 ⟨y, l', e', rfl, hg, hr, hb⟩
              obtain ⟨hy, rfl, rfl⟩ := hg.short
              replace L := hide (L.out.read hr hb)
              obtain ⟨hs1, hs2, hs3, hs4⟩ := no7 hy
              clear hg hr hb hy
              go_wp2_with fail
              replace L := hide (L.out.after (bAl (o := .cells #[.int .u32 0, .int .u8 0, .int .u8 0, .int .u64 (lm y.a 0), .int .u64 (lm y.a 1), .int .u64 (lm y.a 2), .int .u64 (lm y.a 3)] 29) (bMe w6)))
              refine (err_any L.out.rdr).mono ?_
              rintro r w7 ⟨rfl, rfl⟩
              go_wp2
              go_ret
              exact ⟨rfl, L.out.below⟩
            · subst f1 f2 f3
              clear F hd
              go_wp2_with fail
              refine (get_any L.out.rdr (fun x hx => by simp at hx)).mono ?_
              rintro r w6 ⟨y, l', e', rfl, hg, hr, hb⟩
              obtain ⟨hy, rfl, rfl⟩ := hg.bad
              replace L := hide (L.out.read hr hb)
              obtain ⟨hs1, hs2, hs3, hs4⟩ := no7 hy
              clear hg hr hb hy
              go_wp2_with fail
              replace L := hide (L.out.after (bAl (o := .cells #[.int .u32 0, .int .u8 0, .int .u8 0, .int .u64 (lm y.a 0), .int .u64 (lm y.a 1), .int .u64 (lm y.a 2), .int .u64 (lm y.a 3)] 29) (bMe w6)))
              refine (err_any L.out.rdr).mono ?_
              rintro r w7 ⟨rfl, rfl⟩
              go_wp2
              go_ret
              exact ⟨rfl, L.out.below⟩
  · have hli : (20 : Int) < (xs.length : Int) := by omega
    go_enter Try.func4, Try.ntmps4
    go_wp2_with fail
    refine (lives7_any w).mono ?_
    rintro e w1 ⟨rfl, hb⟩
    have B := hide hb
    clear hb
    go_wp2_with fail
    refine (lives7_any w1).mono ?_
    rintro e w2 ⟨rfl, hb⟩
    replace B := hide (bOn B.out hb)
    clear hb
    go_wp2
    go_ret
    exact ⟨rfl, B.out⟩
end Go.Proofs.Ythcahgfoganehaa
