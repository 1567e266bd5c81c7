/- The contract of digest.words over this translation. -/
import Derived.Test.YtjkhboejhcbdpaaDoorDigRows
import Derived.Deep.RegionHeld3
import Derived.Deep.LoopGhost
import Derived.ScopeJumps
import Derived.BigRegion
import Derived.BigQuiet
import Derived.Deep.QuietTactic
namespace Go.Proofs.YtjkhboejhcbdpaaDoor
open Go.RowKit Go.Lib
attribute [local go_sem] setCell_drewN alloc_drewN

/-- What stands while the words are made. -/
structure WD (w0 w : World) (f : Nat → Int) (i : Nat) : Prop where
  res : R32 w (w0.heap.size + 1) 64 (fun _ => 0)
  ws : R32 w (w0.heap.size + 1 + 1) 64 (fun j => (words (bw f) i).getD j 0)
  below : Below w0.heap.size w0 w
/-- What stands at each jump. -/
def WJ (w : World) (f : Nat → Int) (a : Act) (w' : World) : Prop := ∃ (i : Nat) (u : Nat → Value), a = { tmps := #[.agg (rowV 64 f).toArray, .pointer (some ⟨w.heap.size, 0, none⟩), .pointer (some ⟨w.heap.size + 1, 0, none⟩), .pointer (some ⟨w.heap.size + 1 + 1, 0, none⟩), u 4, .int .i64 i, u 6, u 7, u 8, u 9, u 10, u 11, u 12, u 13, u 14, u 15, u 16, u 17, u 18, u 19, u 20, u 21, u 22, u 23, u 24, u 25, u 26, u 27, u 28, u 29, u 30, u 31, u 32, u 33, u 34, u 35, u 36, u 37, u 38, u 39, u 40, u 41, u 42, u 43, u 44, u 45, u 46, u 47, u 48, u 49, u 50, u 51, u 52, u 53, u 54, u 55, u 56, u 57, u 58, u 59, u 60, u 61, u 62, u 63, u 64, u 65, u 66, u 67, u 68, u 69, u 70], defers := [] } ∧ 17 ≤ i ∧ i < 64 ∧ WD w w' f i
theorem WJ.mk {w : World} {f : Nat → Int} {w' : World} {m : Int} {i : Nat} {u4 u6 u7 u8 u9 u10 u11 u12 u13 u14 u15 u16 u17 u18 u19 u20 u21 u22 u23 u24 u25 u26 u27 u28 u29 u30 u31 u32 u33 u34 u35 u36 u37 u38 u39 u40 u41 u42 u43 u44 u45 u46 u47 u48 u49 u50 u51 u52 u53 u54 u55 u56 u57 u58 u59 u60 u61 u62 u63 u64 u65 u66 u67 u68 u69 u70 : Value} (hm : m = (i : Int)) (h1 : 17 ≤ i) (h2 : i < 64) (h3 : WD w w' f i) : WJ w f { tmps := #[.agg (rowV 64 f).toArray, .pointer (some ⟨w.heap.size, 0, none⟩), .pointer (some ⟨w.heap.size + 1, 0, none⟩), .pointer (some ⟨w.heap.size + 1 + 1, 0, none⟩), u4, .int .i64 m, u6, u7, u8, u9, u10, u11, u12, u13, u14, u15, u16, u17, u18, u19, u20, u21, u22, u23, u24, u25, u26, u27, u28, u29, u30, u31, u32, u33, u34, u35, u36, u37, u38, u39, u40, u41, u42, u43, u44, u45, u46, u47, u48, u49, u50, u51, u52, u53, u54, u55, u56, u57, u58, u59, u60, u61, u62, u63, u64, u65, u66, u67, u68, u69, u70], defers := [] } w' := by
  subst hm
  exact ⟨i, fun k => (#[undef, undef, undef, undef, u4, undef, u6, u7, u8, u9, u10, u11, u12, u13, u14, u15, u16, u17, u18, u19, u20, u21, u22, u23, u24, u25, u26, u27, u28, u29, u30, u31, u32, u33, u34, u35, u36, u37, u38, u39, u40, u41, u42, u43, u44, u45, u46, u47, u48, u49, u50, u51, u52, u53, u54, u55, u56, u57, u58, u59, u60, u61, u62, u63, u64, u65, u66, u67, u68, u69, u70] : Array Value).getD k undef, rfl, h1, h2, h3⟩
theorem sum4 (za zb x y : Int) : m32 (za + zb + sg0 x + sg1 y) = (za + zb + xr (xr (rotr x 7) (rotr x 18)) (x / 8) + xr (xr (rotr y 17) (rotr y 19)) (y / 1024)) % 4294967296 := by
  unfold m32 sg0 sg1 xr3
  rw [show (2 : Int) ^ 3 = 8 from rfl, show (2 : Int) ^ 10 = 1024 from rfl]
set_option maxRecDepth 100000 in
set_option maxHeartbeats 8000000 in
theorem words_any (f V : Nat → Int) (w : World) (hf : ∀ j, 0 ≤ f j ∧ f j < 256) (HVW : Hid (∀ j, (words (bw f) 64).getD j 0 = V j)) :
    Calls Tryd.prog 53 #[.agg (rowV 64 f).toArray] w fun e w' => e = .returned (.agg (wordV 64 V).toArray) ∧ Below w.heap.size w w' := by
  have HF := hide hf
  have HFU : Hid (∀ j, U32 (bw f j)) := bw_U hf
  clear hf
  go_enter Tryd.func53, Tryd.ntmps53
  go_wp2_with fail
  have BR := hide (((BRow.box w 64 f 93 (g := w.heap.size) rfl).past (.cells #[.int .u32 0, .int .u32 0, .int .u32 0, .int .u32 0, .int .u32 0, .int .u32 0, .int .u32 0, .int .u32 0, .int .u32 0, .int .u32 0, .int .u32 0, .int .u32 0, .int .u32 0, .int .u32 0, .int .u32 0, .int .u32 0, .int .u32 0, .int .u32 0, .int .u32 0, .int .u32 0, .int .u32 0, .int .u32 0, .int .u32 0, .int .u32 0, .int .u32 0, .int .u32 0, .int .u32 0, .int .u32 0, .int .u32 0, .int .u32 0, .int .u32 0, .int .u32 0, .int .u32 0, .int .u32 0, .int .u32 0, .int .u32 0, .int .u32 0, .int .u32 0, .int .u32 0, .int .u32 0, .int .u32 0, .int .u32 0, .int .u32 0, .int .u32 0, .int .u32 0, .int .u32 0, .int .u32 0, .int .u32 0, .int .u32 0, .int .u32 0, .int .u32 0, .int .u32 0, .int .u32 0, .int .u32 0, .int .u32 0, .int .u32 0, .int .u32 0, .int .u32 0, .int .u32 0, .int .u32 0, .int .u32 0, .int .u32 0, .int .u32 0, .int .u32 0] 89)).past (.cells #[.int .u32 0, .int .u32 0, .int .u32 0, .int .u32 0, .int .u32 0, .int .u32 0, .int .u32 0, .int .u32 0, .int .u32 0, .int .u32 0, .int .u32 0, .int .u32 0, .int .u32 0, .int .u32 0, .int .u32 0, .int .u32 0, .int .u32 0, .int .u32 0, .int .u32 0, .int .u32 0, .int .u32 0, .int .u32 0, .int .u32 0, .int .u32 0, .int .u32 0, .int .u32 0, .int .u32 0, .int .u32 0, .int .u32 0, .int .u32 0, .int .u32 0, .int .u32 0, .int .u32 0, .int .u32 0, .int .u32 0, .int .u32 0, .int .u32 0, .int .u32 0, .int .u32 0, .int .u32 0, .int .u32 0, .int .u32 0, .int .u32 0, .int .u32 0, .int .u32 0, .int .u32 0, .int .u32 0, .int .u32 0, .int .u32 0, .int .u32 0, .int .u32 0, .int .u32 0, .int .u32 0, .int .u32 0, .int .u32 0, .int .u32 0, .int .u32 0, .int .u32 0, .int .u32 0, .int .u32 0, .int .u32 0, .int .u32 0, .int .u32 0, .int .u32 0] 89))
  have R1 := hide ((R32.zeros64 (w.alloc (.cells (rowV 64 f).toArray 93)) (g := w.heap.size + 1) (by simp)).past (.cells #[.int .u32 0, .int .u32 0, .int .u32 0, .int .u32 0, .int .u32 0, .int .u32 0, .int .u32 0, .int .u32 0, .int .u32 0, .int .u32 0, .int .u32 0, .int .u32 0, .int .u32 0, .int .u32 0, .int .u32 0, .int .u32 0, .int .u32 0, .int .u32 0, .int .u32 0, .int .u32 0, .int .u32 0, .int .u32 0, .int .u32 0, .int .u32 0, .int .u32 0, .int .u32 0, .int .u32 0, .int .u32 0, .int .u32 0, .int .u32 0, .int .u32 0, .int .u32 0, .int .u32 0, .int .u32 0, .int .u32 0, .int .u32 0, .int .u32 0, .int .u32 0, .int .u32 0, .int .u32 0, .int .u32 0, .int .u32 0, .int .u32 0, .int .u32 0, .int .u32 0, .int .u32 0, .int .u32 0, .int .u32 0, .int .u32 0, .int .u32 0, .int .u32 0, .int .u32 0, .int .u32 0, .int .u32 0, .int .u32 0, .int .u32 0, .int .u32 0, .int .u32 0, .int .u32 0, .int .u32 0, .int .u32 0, .int .u32 0, .int .u32 0, .int .u32 0] 89))
  have R2 := hide (R32.zeros64 ((w.alloc (.cells (rowV 64 f).toArray 93)).alloc (.cells #[.int .u32 0, .int .u32 0, .int .u32 0, .int .u32 0, .int .u32 0, .int .u32 0, .int .u32 0, .int .u32 0, .int .u32 0, .int .u32 0, .int .u32 0, .int .u32 0, .int .u32 0, .int .u32 0, .int .u32 0, .int .u32 0, .int .u32 0, .int .u32 0, .int .u32 0, .int .u32 0, .int .u32 0, .int .u32 0, .int .u32 0, .int .u32 0, .int .u32 0, .int .u32 0, .int .u32 0, .int .u32 0, .int .u32 0, .int .u32 0, .int .u32 0, .int .u32 0, .int .u32 0, .int .u32 0, .int .u32 0, .int .u32 0, .int .u32 0, .int .u32 0, .int .u32 0, .int .u32 0, .int .u32 0, .int .u32 0, .int .u32 0, .int .u32 0, .int .u32 0, .int .u32 0, .int .u32 0, .int .u32 0, .int .u32 0, .int .u32 0, .int .u32 0, .int .u32 0, .int .u32 0, .int .u32 0, .int .u32 0, .int .u32 0, .int .u32 0, .int .u32 0, .int .u32 0, .int .u32 0, .int .u32 0, .int .u32 0, .int .u32 0, .int .u32 0] 89)) (g := w.heap.size + 1 + 1) (by simp))
  have B : Hid (Below w.heap.size w (((w.alloc (.cells (rowV 64 f).toArray 93)).alloc (.cells #[.int .u32 0, .int .u32 0, .int .u32 0, .int .u32 0, .int .u32 0, .int .u32 0, .int .u32 0, .int .u32 0, .int .u32 0, .int .u32 0, .int .u32 0, .int .u32 0, .int .u32 0, .int .u32 0, .int .u32 0, .int .u32 0, .int .u32 0, .int .u32 0, .int .u32 0, .int .u32 0, .int .u32 0, .int .u32 0, .int .u32 0, .int .u32 0, .int .u32 0, .int .u32 0, .int .u32 0, .int .u32 0, .int .u32 0, .int .u32 0, .int .u32 0, .int .u32 0, .int .u32 0, .int .u32 0, .int .u32 0, .int .u32 0, .int .u32 0, .int .u32 0, .int .u32 0, .int .u32 0, .int .u32 0, .int .u32 0, .int .u32 0, .int .u32 0, .int .u32 0, .int .u32 0, .int .u32 0, .int .u32 0, .int .u32 0, .int .u32 0, .int .u32 0, .int .u32 0, .int .u32 0, .int .u32 0, .int .u32 0, .int .u32 0, .int .u32 0, .int .u32 0, .int .u32 0, .int .u32 0, .int .u32 0, .int .u32 0, .int .u32 0, .int .u32 0] 89)).alloc (.cells #[.int .u32 0, .int .u32 0, .int .u32 0, .int .u32 0, .int .u32 0, .int .u32 0, .int .u32 0, .int .u32 0, .int .u32 0, .int .u32 0, .int .u32 0, .int .u32 0, .int .u32 0, .int .u32 0, .int .u32 0, .int .u32 0, .int .u32 0, .int .u32 0, .int .u32 0, .int .u32 0, .int .u32 0, .int .u32 0, .int .u32 0, .int .u32 0, .int .u32 0, .int .u32 0, .int .u32 0, .int .u32 0, .int .u32 0, .int .u32 0, .int .u32 0, .int .u32 0, .int .u32 0, .int .u32 0, .int .u32 0, .int .u32 0, .int .u32 0, .int .u32 0, .int .u32 0, .int .u32 0, .int .u32 0, .int .u32 0, .int .u32 0, .int .u32 0, .int .u32 0, .int .u32 0, .int .u32 0, .int .u32 0, .int .u32 0, .int .u32 0, .int .u32 0, .int .u32 0, .int .u32 0, .int .u32 0, .int .u32 0, .int .u32 0, .int .u32 0, .int .u32 0, .int .u32 0, .int .u32 0, .int .u32 0, .int .u32 0, .int .u32 0, .int .u32 0] 89))) := bAl (bAl (bAl (bMe w)))
  refine wp_scope_jumps 0 (WJ w f) (fun a' _ => (64 - intOf (a'.tmps.getD 5 undef)).toNat) rfl ?_ ?_
  · go_wp2
    generalize ((w.alloc (.cells (rowV 64 f).toArray 93)).alloc (.cells #[.int .u32 0, .int .u32 0, .int .u32 0, .int .u32 0, .int .u32 0, .int .u32 0, .int .u32 0, .int .u32 0, .int .u32 0, .int .u32 0, .int .u32 0, .int .u32 0, .int .u32 0, .int .u32 0, .int .u32 0, .int .u32 0, .int .u32 0, .int .u32 0, .int .u32 0, .int .u32 0, .int .u32 0, .int .u32 0, .int .u32 0, .int .u32 0, .int .u32 0, .int .u32 0, .int .u32 0, .int .u32 0, .int .u32 0, .int .u32 0, .int .u32 0, .int .u32 0, .int .u32 0, .int .u32 0, .int .u32 0, .int .u32 0, .int .u32 0, .int .u32 0, .int .u32 0, .int .u32 0, .int .u32 0, .int .u32 0, .int .u32 0, .int .u32 0, .int .u32 0, .int .u32 0, .int .u32 0, .int .u32 0, .int .u32 0, .int .u32 0, .int .u32 0, .int .u32 0, .int .u32 0, .int .u32 0, .int .u32 0, .int .u32 0, .int .u32 0, .int .u32 0, .int .u32 0, .int .u32 0, .int .u32 0, .int .u32 0, .int .u32 0, .int .u32 0] 89)).alloc (.cells #[.int .u32 0, .int .u32 0, .int .u32 0, .int .u32 0, .int .u32 0, .int .u32 0, .int .u32 0, .int .u32 0, .int .u32 0, .int .u32 0, .int .u32 0, .int .u32 0, .int .u32 0, .int .u32 0, .int .u32 0, .int .u32 0, .int .u32 0, .int .u32 0, .int .u32 0, .int .u32 0, .int .u32 0, .int .u32 0, .int .u32 0, .int .u32 0, .int .u32 0, .int .u32 0, .int .u32 0, .int .u32 0, .int .u32 0, .int .u32 0, .int .u32 0, .int .u32 0, .int .u32 0, .int .u32 0, .int .u32 0, .int .u32 0, .int .u32 0, .int .u32 0, .int .u32 0, .int .u32 0, .int .u32 0, .int .u32 0, .int .u32 0, .int .u32 0, .int .u32 0, .int .u32 0, .int .u32 0, .int .u32 0, .int .u32 0, .int .u32 0, .int .u32 0, .int .u32 0, .int .u32 0, .int .u32 0, .int .u32 0, .int .u32 0, .int .u32 0, .int .u32 0, .int .u32 0, .int .u32 0, .int .u32 0, .int .u32 0, .int .u32 0, .int .u32 0] 89) = w3 at *
    go_loopg [10] 64 (fun gk t wr => ∃ k : Nat, gk + k = 64 ∧ t = .int .i64 k ∧ BRow wr w.heap.size 64 f ∧ R32 wr (w.heap.size + 1) 64 (fun _ => 0) ∧ R32 wr (w.heap.size + 1 + 1) 64 (acc f k) ∧ Below w.heap.size w wr)
    case atStart => exact ⟨0, by omega, rfl, BR.out, R1.out, R2.out.congr (fun j _ => by unfold acc; simp [pn]), B.out⟩
    case round =>
      clear BR R1 R2 B
      obtain ⟨k, hk, rfl, b0, r1, r2, hb⟩ := hrel
      have HK := hide hk
      have BR := hide b0; have R1 := hide r1; have R2 := hide r2; have B := hide hb
      clear hk b0 r1 r2 hb
      by_cases hlt : k < 64
      · have hki : (k : Int) < 64 := by omega
        obtain ⟨q, hq⟩ : ∃ q, k / 4 = q := ⟨_, rfl⟩
        have hqi : (k : Int) / 4 = (q : Int) := by omega
        have hq16 : (q : Int) < 64 := by omega
        have HQ := hide hq
        have cb := BR.out.cell k hlt
        have cw := R2.out.cell q (by omega)
        have fw := R2.out.fr q
        have HN := hide (fun j => acc_next f k j)
        have HA := hide (acc_bd HF.out k)
        rw [hq] at HN HA
        have hfk := HF.out k
        have HO := hide (or_byte HA.out hfk)
        have ha0 := HA.out.1; have ha1 := HA.out.2
        obtain ⟨f0, f1⟩ := hfk
        clear hq
        generalize acc f k q = z at *
        generalize f k = y at *
        go_wp2
        go_region
        all_goals
          go_wp2
          go_roundg (64 - k - 1)
          case measure => have := HK.out; omega
          case rel =>
            refine ⟨k + 1, by omega, by go_num, (BR.out.other (by simp only []; omega) _).after (bMe _).drew rfl, (R1.out.other (by simp only []; omega) _).after (bMe _).drew rfl, ?_, bOn (B.out.setCell (by simp only []; omega) _) (bMe _).drew⟩
            refine ((R2.out.set q (by have := HQ.out; omega) _).after (bMe _).drew rfl).congr (fun j _ => ?_)
            rw [HO.out]
            exact HN.out j
      · obtain rfl : k = 64 := by have := HK.out; omega
        have D : Hid (WD w wr f 16) := ⟨R1.out, R2.out.congr (fun j hj => acc_all f j hj), B.out⟩
        clear R1 R2 B BR
        go_wp2
        go_step3
        obtain ⟨i, hi⟩ : ∃ i : Nat, i = 16 := ⟨_, rfl⟩
        have e16 : Value.int .i64 16 = .int .i64 ((i : Nat) : Int) := by rw [hi]; rfl
        rw [e16]
        rw [← hi] at D
        have hi16 : 16 ≤ i := by omega
        have hi64 : i < 64 := by omega
        clear hi e16
        have hii : (i : Int) < 64 := by omega
        have hii2 : (16 : Int) ≤ (i : Int) := by omega
        obtain ⟨a16, h1⟩ : ∃ a, i = a + 16 := ⟨i - 16, by omega⟩
        obtain ⟨a15, h2⟩ : ∃ a, i = a + 15 := ⟨i - 15, by omega⟩
        obtain ⟨a7, h3⟩ : ∃ a, i = a + 7 := ⟨i - 7, by omega⟩
        obtain ⟨a2, h4⟩ : ∃ a, i = a + 2 := ⟨i - 2, by omega⟩
        have c16 := D.out.ws.cell a16 (by omega)
        have c15 := D.out.ws.cell a15 (by omega)
        have c7 := D.out.ws.cell a7 (by omega)
        have c2 := D.out.ws.cell a2 (by omega)
        have cw := D.out.ws.cell i (by omega)
        have fw := D.out.ws.fr i
        have HX := hide (words_get HFU.out i a15)
        have HY := hide (words_get HFU.out i a2)
        have HNX := hide (fun j => words_next (bw f) i j)
        have j16 : IntKind.i64.wrap ((i : Int) - 16) = (a16 : Int) := by rw [IntKind.wrap_i64]; omega
        have j15 : IntKind.i64.wrap ((i : Int) - 15) = (a15 : Int) := by rw [IntKind.wrap_i64]; omega
        have j7 : IntKind.i64.wrap ((i : Int) - 7) = (a7 : Int) := by rw [IntKind.wrap_i64]; omega
        have j2 : IntKind.i64.wrap ((i : Int) - 2) = (a2 : Int) := by rw [IntKind.wrap_i64]; omega
        have b16 : (a16 : Int) < 64 := by omega
        have b15 : (a15 : Int) < 64 := by omega
        have b7 : (a7 : Int) < 64 := by omega
        have b2 : (a2 : Int) < 64 := by omega
        have HV : Hid (nextW (bw f) (words (bw f) i) i = m32 ((words (bw f) i).getD a16 0 + (words (bw f) i).getD a7 0 + sg0 ((words (bw f) i).getD a15 0) + sg1 ((words (bw f) i).getD a2 0))) := by
          show _ = _
          unfold nextW
          rw [if_neg (by omega), show i - 16 = a16 by omega, show i - 7 = a7 by omega, show i - 15 = a15 by omega, show i - 2 = a2 by omega]
        have n16 : ¬ a16 = i := by omega
        have n7 : ¬ a7 = i := by omega
        have H1 := hide h1; have H2 := hide h2; have H3 := hide h3; have H4 := hide h4
        clear h1 h2 h3 h4
        generalize (words (bw f) i).getD a16 0 = za at *
        generalize (words (bw f) i).getD a7 0 = zb at *
        generalize (words (bw f) i).getD a15 0 = x at *
        generalize (words (bw f) i).getD a2 0 = y at *
        have x1 := xr_is (rotr_U HX.out (n := 7) (by decide)) (rotr_U HX.out (n := 18) (by decide))
        have x2 := xr_is (xr_U (rotr_U HX.out (n := 7) (by decide)) (rotr_U HX.out (n := 18) (by decide))) (shr_U HX.out 3)
        have y1 := xr_is (rotr_U HY.out (n := 17) (by decide)) (rotr_U HY.out (n := 19) (by decide))
        have y2 := xr_is (xr_U (rotr_U HY.out (n := 17) (by decide)) (rotr_U HY.out (n := 19) (by decide))) (shr_U HY.out 10)
        rw [show (2 : Int) ^ 3 = 8 from rfl] at x2
        rw [show (2 : Int) ^ 10 = 1024 from rfl] at y2
        go_wp2
        go_quiet (fail)
        go_wp2_with fail
        refine (turned7 x _ HX.out).mono ?_
        rintro e w4 ⟨rfl, rfl⟩
        go_wp2_with fail
        refine (turned18 x _ HX.out).mono ?_
        rintro e w4 ⟨rfl, rfl⟩
        go_wp2_with fail
        refine (turned17 y _ HY.out).mono ?_
        rintro e w4 ⟨rfl, rfl⟩
        go_wp2_with fail
        refine (turned19 y _ HY.out).mono ?_
        rintro e w4 ⟨rfl, rfl⟩
        go_wp2_with fail
        clear x1 x2 y1 y2
        go_region
        all_goals
          have D2 : Hid (WD w ((wr.setCell ⟨w.heap.size + 1 + 1, i, none⟩ (.int .u32 ((za + zb + xr (xr (rotr x 7) (rotr x 18)) (x / 8) + xr (xr (rotr y 17) (rotr y 19)) (y / 1024)) % 4294967296))).drewN (nq + 1)) f (i + 1)) := by
            refine ⟨(D.out.res.other (by simp only []; omega) _).dn _, ((D.out.ws.set i hi64 _).dn _).congr (fun j _ => ?_), bDn (D.out.below.setCell (by simp only []; omega) _)⟩
            rw [← HNX.out j, HV.out, sum4]
          by_cases hlast : i + 1 < 64
          · have hli : (i : Int) + 1 < 64 := by omega
            go_wp2
            go_step3
            exact ⟨rfl, WJ.mk (i := i + 1) (by omega) (by omega) hlast D2.out⟩
          · have hli : ¬ (i : Int) + 1 < 64 := by omega
            have e64 : i + 1 = 64 := by omega
            rw [e64] at D2
            have HE : Hid (i = 63) := by show _ = _; omega
            generalize (wr.setCell ⟨w.heap.size + 1 + 1, i, none⟩ (.int .u32 ((za + zb + xr (xr (rotr x 7) (rotr x 18)) (x / 8) + xr (xr (rotr y 17) (rotr y 19)) (y / 1024)) % 4294967296))).drewN (nq + 1) = w5 at *
            have WS : Hid (R32 w5 (w.heap.size + 1 + 1) 64 V) := D2.out.ws.congr (fun j _ => HVW.out j)
            have RS := hide D2.out.res
            have BS := hide D2.out.below
            clear D2 e64 HV HNX D cw HVW
            go_wp2_with (first
              | refine wpList_load_mid rfl 89 _ rfl (w.heap.size + 1 + 1) 0 rfl (wordV 64 V) _ WS.out.range Tryd.underlying89 rfl (info_w64 _) ?_
              | refine wpList_store_mid rfl 89 _ _ rfl (w.heap.size + 1) 0 (wordV 64 V).toArray rfl rfl (RS.out.thereA V) (info_w64A V) (wordV_oneA _ _) ?_)
            simp only [Exit.jump]
            refine bodyPost_ret (v := .agg (wordV 64 V).toArray) ?_ rfl ⟨rfl, setCells_below BS.out (by omega) _ _⟩
            have hlv := run_loadVar_mid (P := Tryd.prog) _ _ _ _ _ _ (RS.out.stored V).range Tryd.underlying89 rfl (info_w64 _)
            exact results_one Tryd.results53 rfl hlv
  · rintro a' wr ⟨i, u, rfl, hi17, hi64, hd⟩
    have D := hide hd
    have hi16 : 16 ≤ i := by omega
    clear hd hi17 BR R1 R2 B
    have hii : (i : Int) < 64 := by omega
    have hii2 : (16 : Int) ≤ (i : Int) := by omega
    obtain ⟨a16, h1⟩ : ∃ a, i = a + 16 := ⟨i - 16, by omega⟩
    obtain ⟨a15, h2⟩ : ∃ a, i = a + 15 := ⟨i - 15, by omega⟩
    obtain ⟨a7, h3⟩ : ∃ a, i = a + 7 := ⟨i - 7, by omega⟩
    obtain ⟨a2, h4⟩ : ∃ a, i = a + 2 := ⟨i - 2, by omega⟩
    have c16 := D.out.ws.cell a16 (by omega)
    have c15 := D.out.ws.cell a15 (by omega)
    have c7 := D.out.ws.cell a7 (by omega)
    have c2 := D.out.ws.cell a2 (by omega)
    have cw := D.out.ws.cell i (by omega)
    have fw := D.out.ws.fr i
    have HX := hide (words_get HFU.out i a15)
    have HY := hide (words_get HFU.out i a2)
    have HNX := hide (fun j => words_next (bw f) i j)
    have j16 : IntKind.i64.wrap ((i : Int) - 16) = (a16 : Int) := by rw [IntKind.wrap_i64]; omega
    have j15 : IntKind.i64.wrap ((i : Int) - 15) = (a15 : Int) := by rw [IntKind.wrap_i64]; omega
    have j7 : IntKind.i64.wrap ((i : Int) - 7) = (a7 : Int) := by rw [IntKind.wrap_i64]; omega
    have j2 : IntKind.i64.wrap ((i : Int) - 2) = (a2 : Int) := by rw [IntKind.wrap_i64]; omega
    have b16 : (a16 : Int) < 64 := by omega
    have b15 : (a15 : Int) < 64 := by omega
    have b7 : (a7 : Int) < 64 := by omega
    have b2 : (a2 : Int) < 64 := by omega
    have HV : Hid (nextW (bw f) (words (bw f) i) i = m32 ((words (bw f) i).getD a16 0 + (words (bw f) i).getD a7 0 + sg0 ((words (bw f) i).getD a15 0) + sg1 ((words (bw f) i).getD a2 0))) := by
      show _ = _
      unfold nextW
      rw [if_neg (by omega), show i - 16 = a16 by omega, show i - 7 = a7 by omega, show i - 15 = a15 by omega, show i - 2 = a2 by omega]
    have n16 : ¬ a16 = i := by omega
    have n7 : ¬ a7 = i := by omega
    have H1 := hide h1; have H2 := hide h2; have H3 := hide h3; have H4 := hide h4
    clear h1 h2 h3 h4
    generalize (words (bw f) i).getD a16 0 = za at *
    generalize (words (bw f) i).getD a7 0 = zb at *
    generalize (words (bw f) i).getD a15 0 = x at *
    generalize (words (bw f) i).getD a2 0 = y at *
    have x1 := xr_is (rotr_U HX.out (n := 7) (by decide)) (rotr_U HX.out (n := 18) (by decide))
    have x2 := xr_is (xr_U (rotr_U HX.out (n := 7) (by decide)) (rotr_U HX.out (n := 18) (by decide))) (shr_U HX.out 3)
    have y1 := xr_is (rotr_U HY.out (n := 17) (by decide)) (rotr_U HY.out (n := 19) (by decide))
    have y2 := xr_is (xr_U (rotr_U HY.out (n := 17) (by decide)) (rotr_U HY.out (n := 19) (by decide))) (shr_U HY.out 10)
    rw [show (2 : Int) ^ 3 = 8 from rfl] at x2
    rw [show (2 : Int) ^ 10 = 1024 from rfl] at y2
    go_wp2
    go_quiet (fail)
    go_wp2_with fail
    refine (turned7 x _ HX.out).mono ?_
    rintro e w4 ⟨rfl, rfl⟩
    go_wp2_with fail
    refine (turned18 x _ HX.out).mono ?_
    rintro e w4 ⟨rfl, rfl⟩
    go_wp2_with fail
    refine (turned17 y _ HY.out).mono ?_
    rintro e w4 ⟨rfl, rfl⟩
    go_wp2_with fail
    refine (turned19 y _ HY.out).mono ?_
    rintro e w4 ⟨rfl, rfl⟩
    go_wp2_with fail
    clear x1 x2 y1 y2
    go_region
    all_goals
      have D2 : Hid (WD w ((wr.setCell ⟨w.heap.size + 1 + 1, i, none⟩ (.int .u32 ((za + zb + xr (xr (rotr x 7) (rotr x 18)) (x / 8) + xr (xr (rotr y 17) (rotr y 19)) (y / 1024)) % 4294967296))).drewN (nq + 1)) f (i + 1)) := by
        refine ⟨(D.out.res.other (by simp only []; omega) _).dn _, ((D.out.ws.set i hi64 _).dn _).congr (fun j _ => ?_), bDn (D.out.below.setCell (by simp only []; omega) _)⟩
        rw [← HNX.out j, HV.out, sum4]
      by_cases hlast : i + 1 < 64
      · have hli : (i : Int) + 1 < 64 := by omega
        go_wp2
        go_step3
        refine ⟨rfl, WJ.mk (i := i + 1) (by omega) (by omega) hlast D2.out, ?_⟩
        show (64 - ((i : Int) + 1)).toNat < (64 - (i : Int)).toNat
        omega
      · have hli : ¬ (i : Int) + 1 < 64 := by omega
        have e64 : i + 1 = 64 := by omega
        rw [e64] at D2
        have HE : Hid (i = 63) := by show _ = _; omega
        generalize (wr.setCell ⟨w.heap.size + 1 + 1, i, none⟩ (.int .u32 ((za + zb + xr (xr (rotr x 7) (rotr x 18)) (x / 8) + xr (xr (rotr y 17) (rotr y 19)) (y / 1024)) % 4294967296))).drewN (nq + 1) = w5 at *
        have WS : Hid (R32 w5 (w.heap.size + 1 + 1) 64 V) := D2.out.ws.congr (fun j _ => HVW.out j)
        have RS := hide D2.out.res
        have BS := hide D2.out.below
        clear D2 e64 HV HNX D cw HVW
        go_wp2_with (first
          | refine wpList_load_mid rfl 89 _ rfl (w.heap.size + 1 + 1) 0 rfl (wordV 64 V) _ WS.out.range Tryd.underlying89 rfl (info_w64 _) ?_
          | refine wpList_store_mid rfl 89 _ _ rfl (w.heap.size + 1) 0 (wordV 64 V).toArray rfl rfl (RS.out.thereA V) (info_w64A V) (wordV_oneA _ _) ?_)
        simp only [Exit.jump]
        refine bodyPost_ret (v := .agg (wordV 64 V).toArray) ?_ rfl ⟨rfl, setCells_below BS.out (by omega) _ _⟩
        have hlv := run_loadVar_mid (P := Tryd.prog) _ _ _ _ _ _ (RS.out.stored V).range Tryd.underlying89 rfl (info_w64 _)
        exact results_one Tryd.results53 rfl hlv
end Go.Proofs.YtjkhboejhcbdpaaDoor
