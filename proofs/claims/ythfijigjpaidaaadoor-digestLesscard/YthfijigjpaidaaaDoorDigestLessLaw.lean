/- The walk of sponsionlaw05.DigestLess over this translation. -/
import Derived.Test.YthfijigjpaidaaaDoorDigLess
import Derived.Test.YthfijigjpaidaaaDoorClassy
namespace Go.Proofs.YthfijigjpaidaaaDoor
open Go.RowKit Go.Lib
attribute [local go_sem] setCell_drewN alloc_drewN eqHash

/-- The three sums in memory. -/
structure LD (w0 w : World) (a b c : Nat → Int) : Prop where
  a : BRow w w0.heap.size 32 a
  b : BRow w (w0.heap.size + 1) 32 b
  c : BRow w (w0.heap.size + 1 + 1) 32 c
  below : Below w0.heap.size w0 w
theorem LD.after {w0 w w' : World} {a b c : Nat → Int} (d : LD w0 w a b c) (hb : Below w.heap.size w w') : LD w0 w' a b c :=
  ⟨d.a.after hb rfl, d.b.after hb rfl, d.c.after hb rfl, bOn d.below hb⟩
theorem sameH_comm (f f' : Nat → Int) : sameH f f' = sameH f' f := by
  unfold sameH
  congr 1
  funext j
  exact Bool.beq_comm
theorem row32 (f : Nat → Int) : (rowV 32 f).toArray = #[.int .u8 (f 0), .int .u8 (f 1), .int .u8 (f 2), .int .u8 (f 3), .int .u8 (f 4), .int .u8 (f 5), .int .u8 (f 6), .int .u8 (f 7), .int .u8 (f 8), .int .u8 (f 9), .int .u8 (f 10), .int .u8 (f 11), .int .u8 (f 12), .int .u8 (f 13), .int .u8 (f 14), .int .u8 (f 15), .int .u8 (f 16), .int .u8 (f 17), .int .u8 (f 18), .int .u8 (f 19), .int .u8 (f 20), .int .u8 (f 21), .int .u8 (f 22), .int .u8 (f 23), .int .u8 (f 24), .int .u8 (f 25), .int .u8 (f 26), .int .u8 (f 27), .int .u8 (f 28), .int .u8 (f 29), .int .u8 (f 30), .int .u8 (f 31)] := rfl
theorem held32 {w : World} {g : Nat} {f : Nat → Int} (h : BRow w g 32 f) : w.cell? ⟨g, 0, none⟩ = some (.int .u8 (f 0)) ∧ w.cell? ⟨g, 1, none⟩ = some (.int .u8 (f 1)) ∧ w.cell? ⟨g, 2, none⟩ = some (.int .u8 (f 2)) ∧ w.cell? ⟨g, 3, none⟩ = some (.int .u8 (f 3)) ∧ w.cell? ⟨g, 4, none⟩ = some (.int .u8 (f 4)) ∧ w.cell? ⟨g, 5, none⟩ = some (.int .u8 (f 5)) ∧ w.cell? ⟨g, 6, none⟩ = some (.int .u8 (f 6)) ∧ w.cell? ⟨g, 7, none⟩ = some (.int .u8 (f 7)) ∧ w.cell? ⟨g, 8, none⟩ = some (.int .u8 (f 8)) ∧ w.cell? ⟨g, 9, none⟩ = some (.int .u8 (f 9)) ∧ w.cell? ⟨g, 10, none⟩ = some (.int .u8 (f 10)) ∧ w.cell? ⟨g, 11, none⟩ = some (.int .u8 (f 11)) ∧ w.cell? ⟨g, 12, none⟩ = some (.int .u8 (f 12)) ∧ w.cell? ⟨g, 13, none⟩ = some (.int .u8 (f 13)) ∧ w.cell? ⟨g, 14, none⟩ = some (.int .u8 (f 14)) ∧ w.cell? ⟨g, 15, none⟩ = some (.int .u8 (f 15)) ∧ w.cell? ⟨g, 16, none⟩ = some (.int .u8 (f 16)) ∧ w.cell? ⟨g, 17, none⟩ = some (.int .u8 (f 17)) ∧ w.cell? ⟨g, 18, none⟩ = some (.int .u8 (f 18)) ∧ w.cell? ⟨g, 19, none⟩ = some (.int .u8 (f 19)) ∧ w.cell? ⟨g, 20, none⟩ = some (.int .u8 (f 20)) ∧ w.cell? ⟨g, 21, none⟩ = some (.int .u8 (f 21)) ∧ w.cell? ⟨g, 22, none⟩ = some (.int .u8 (f 22)) ∧ w.cell? ⟨g, 23, none⟩ = some (.int .u8 (f 23)) ∧ w.cell? ⟨g, 24, none⟩ = some (.int .u8 (f 24)) ∧ w.cell? ⟨g, 25, none⟩ = some (.int .u8 (f 25)) ∧ w.cell? ⟨g, 26, none⟩ = some (.int .u8 (f 26)) ∧ w.cell? ⟨g, 27, none⟩ = some (.int .u8 (f 27)) ∧ w.cell? ⟨g, 28, none⟩ = some (.int .u8 (f 28)) ∧ w.cell? ⟨g, 29, none⟩ = some (.int .u8 (f 29)) ∧ w.cell? ⟨g, 30, none⟩ = some (.int .u8 (f 30)) ∧ w.cell? ⟨g, 31, none⟩ = some (.int .u8 (f 31)) :=
  ⟨h.cell 0 (by omega), h.cell 1 (by omega), h.cell 2 (by omega), h.cell 3 (by omega), h.cell 4 (by omega), h.cell 5 (by omega), h.cell 6 (by omega), h.cell 7 (by omega), h.cell 8 (by omega), h.cell 9 (by omega), h.cell 10 (by omega), h.cell 11 (by omega), h.cell 12 (by omega), h.cell 13 (by omega), h.cell 14 (by omega), h.cell 15 (by omega), h.cell 16 (by omega), h.cell 17 (by omega), h.cell 18 (by omega), h.cell 19 (by omega), h.cell 20 (by omega), h.cell 21 (by omega), h.cell 22 (by omega), h.cell 23 (by omega), h.cell 24 (by omega), h.cell 25 (by omega), h.cell 26 (by omega), h.cell 27 (by omega), h.cell 28 (by omega), h.cell 29 (by omega), h.cell 30 (by omega), h.cell 31 (by omega)⟩
theorem less_lit (f f' : Nat → Int) (w : World) :
    Calls Tryd.prog 14 #[.agg #[.int .u8 (f 0), .int .u8 (f 1), .int .u8 (f 2), .int .u8 (f 3), .int .u8 (f 4), .int .u8 (f 5), .int .u8 (f 6), .int .u8 (f 7), .int .u8 (f 8), .int .u8 (f 9), .int .u8 (f 10), .int .u8 (f 11), .int .u8 (f 12), .int .u8 (f 13), .int .u8 (f 14), .int .u8 (f 15), .int .u8 (f 16), .int .u8 (f 17), .int .u8 (f 18), .int .u8 (f 19), .int .u8 (f 20), .int .u8 (f 21), .int .u8 (f 22), .int .u8 (f 23), .int .u8 (f 24), .int .u8 (f 25), .int .u8 (f 26), .int .u8 (f 27), .int .u8 (f 28), .int .u8 (f 29), .int .u8 (f 30), .int .u8 (f 31)], .agg #[.int .u8 (f' 0), .int .u8 (f' 1), .int .u8 (f' 2), .int .u8 (f' 3), .int .u8 (f' 4), .int .u8 (f' 5), .int .u8 (f' 6), .int .u8 (f' 7), .int .u8 (f' 8), .int .u8 (f' 9), .int .u8 (f' 10), .int .u8 (f' 11), .int .u8 (f' 12), .int .u8 (f' 13), .int .u8 (f' 14), .int .u8 (f' 15), .int .u8 (f' 16), .int .u8 (f' 17), .int .u8 (f' 18), .int .u8 (f' 19), .int .u8 (f' 20), .int .u8 (f' 21), .int .u8 (f' 22), .int .u8 (f' 23), .int .u8 (f' 24), .int .u8 (f' 25), .int .u8 (f' 26), .int .u8 (f' 27), .int .u8 (f' 28), .int .u8 (f' 29), .int .u8 (f' 30), .int .u8 (f' 31)]] w fun e w' => e = .returned (.bool (lessB f f')) ∧ Below w.heap.size w w' := by
  have h := less_any f f' w
  rw [row32, row32] at h
  exact h
theorem held_ab {w0 w : World} {a b c : Nat → Int} (d : LD w0 w a b c) : w.rangeAt w0.heap.size 0 (rowV 32 a) ∧ w.rangeAt (w0.heap.size + 1) 0 (rowV 32 b) := ⟨d.a.range, d.b.range⟩
set_option maxRecDepth 100000 in
set_option maxHeartbeats 8000000 in
theorem digestLess_walk (a b c : Nat → Int) (w : World) (_ha : ∀ j, 0 ≤ a j ∧ a j < 256) (_hb : ∀ j, 0 ≤ b j ∧ b j < 256) (_hc : ∀ j, 0 ≤ c j ∧ c j < 256) (ht : Tab w 1) :
    Calls Tryd.prog 6 #[.agg (rowV 32 a).toArray, .agg (rowV 32 b).toArray, .agg (rowV 32 c).toArray] w fun e w' => e = .returned (.bool true) ∧ Below w.heap.size w w' := by
  have HT := hide ht
  clear ht _ha _hb _hc
  have D : Hid (LD w (((w.alloc (.cells (rowV 32 a).toArray 25)).alloc (.cells (rowV 32 b).toArray 25)).alloc (.cells (rowV 32 c).toArray 25)) a b c) :=
    ⟨((BRow.box w 32 a _ rfl).past _).past _, (BRow.box _ 32 b _ (by simp)).past _, BRow.box _ 32 c _ (by simp), bAl (bAl (bAl (bMe w)))⟩
  go_enter Tryd.func6, Tryd.ntmps6
  go_wp2_with fail
  generalize ((w.alloc (.cells (rowV 32 a).toArray 25)).alloc (.cells (rowV 32 b).toArray 25)).alloc (.cells (rowV 32 c).toArray 25) = w1 at *
  refine (lives5_any w1 (HT.out.below D.out.below)).mono ?_
  rintro e w2 ⟨rfl, hb⟩
  replace D := hide (D.out.after hb)
  clear hb HT
  go_wp2
  go_loopg [7, 13] 32 (fun gk t7 t wr => ∃ k : Nat, gk + k = 32 ∧ t = .int .i64 k ∧ t7 = .bool false ∧ Hid (lessFrom a b gk k = lessB a b) ∧ LD w wr a b c)
  case atStart => exact ⟨0, by omega, rfl, rfl, rfl, D.out⟩
  case round =>
    clear D
    obtain ⟨k, hk, rfl, rfl, HL, hd⟩ := hrel
    have D := hide hd; have HK := hide hk
    clear hd hk
    by_cases hlt : k < 32
    · have hki : (k : Int) < 32 := by omega
      have ca := D.out.a.cell k hlt
      have cc := D.out.b.cell k hlt
      obtain ⟨n, hn⟩ : ∃ n, gk = n + 1 := ⟨gk - 1, by have := HK.out; omega⟩
      subst hn
      have HS : Hid ((if a k = b k then lessFrom a b n (k + 1) else decide (a k < b k)) = lessB a b) := HL
      clear HL
      by_cases he : a k = b k
      · have HE := hide he
        rw [he] at ca
        generalize b k = y at *
        go_wp2
        go_quiet (fail)
        go_wp2
        go_roundg n
        case measure => omega
        case rel => exact ⟨k + 1, by have := HK.out; omega, by go_num, rfl, by have := HS.out; rw [if_pos HE.out] at this; exact this, D.out.after (bDn (bMe _))⟩
      · have hne : (a k != b k) = true := by simpa using he
        have HV : Hid (decide (a k < b k) = lessB a b) := by have := HS.out; rw [if_neg he] at this; exact this
        clear HS HK
        go_wp2
        go_quiet (fail)
        have D1 : Hid (LD w (wr.drewN nq) a b c) := D.out.after (bDn (bMe wr))
        clear ca cc D
        generalize wr.drewN nq = w3 at *
        have ca := D1.out.a.cell k hlt
        have cc := D1.out.b.cell k hlt
        go_wp2
        go_quiet (fail)
        have D : Hid (LD w (w3.drewN nq) a b c) := D1.out.after (bDn (bMe w3))
        clear ca cc D1 hne he
        generalize w3.drewN nq = w5 at *
        go_wp2
        rw [HV.out]
        clear HV hlt hki
        obtain ⟨C, hC⟩ : ∃ C : World → Prop, C = fun w' => LD w w' a b c := ⟨_, rfl⟩
        have HC := hide hC
        have HC0 : Hid (C w5.drew) := by rw [hC]; exact D.out.after (bMe w5).drew
        clear hC D
        refine wp_region_class C (by kernel_rfl) (by kernel_rfl) HC0.out ?_
        repeat (go_big_quiet_step (first
          | (intro _; rfl)
          | (intro hx2; go_at_call 14; with_reducible refine (less_lit a b _).mono ?_; rintro e w' ⟨rfl, hb⟩; refine ⟨rfl, ?_⟩; rw [HC.out] at hx2 ⊢; exact hx2.after hb)
          | (intro hx2; go_at_call 14; with_reducible refine (less_lit b a _).mono ?_; rintro e w' ⟨rfl, hb⟩; refine ⟨rfl, ?_⟩; rw [HC.out] at hx2 ⊢; exact hx2.after hb)
          | (intro hx2; rw [HC.out] at hx2; obtain ⟨c0, c1, c2, c3, c4, c5, c6, c7, c8, c9, c10, c11, c12, c13, c14, c15, c16, c17, c18, c19, c20, c21, c22, c23, c24, c25, c26, c27, c28, c29, c30, c31⟩ := held32 hx2.a; simp only [c0, c1, c2, c3, c4, c5, c6, c7, c8, c9, c10, c11, c12, c13, c14, c15, c16, c17, c18, c19, c20, c21, c22, c23, c24, c25, c26, c27, c28, c29, c30, c31, Result.andThen]; exact ⟨trivial, rfl⟩)
          | (intro hx2; rw [HC.out] at hx2; obtain ⟨c0, c1, c2, c3, c4, c5, c6, c7, c8, c9, c10, c11, c12, c13, c14, c15, c16, c17, c18, c19, c20, c21, c22, c23, c24, c25, c26, c27, c28, c29, c30, c31⟩ := held32 hx2.b; simp only [c0, c1, c2, c3, c4, c5, c6, c7, c8, c9, c10, c11, c12, c13, c14, c15, c16, c17, c18, c19, c20, c21, c22, c23, c24, c25, c26, c27, c28, c29, c30, c31, Result.andThen]; exact ⟨trivial, rfl⟩)))
        refine wpQuiet_nil ?_
        intro w6 hw6
        rw [HC.out] at hw6
        have D := hide hw6
        clear hw6 HC HC0
        cases hx : lessB a b with
        | true =>
          have hy : lessB b a = false := less_asym hx
          have hs : sameH a b = false := less_same hx
          cases hz : lessB b c with
          | true =>
            have hu : lessB a c = true := less_trans hx hz
            go_wp2_with (first
              | refine wpList_load_want 25 _ rfl w.heap.size 0 rfl (rowV 32 a) _ D.out.a.range Tryd.underlying25 rfl (info_hash32 _) rfl ?_
              | refine wpList_load_want 25 _ rfl (w.heap.size + 1) 0 rfl (rowV 32 b) _ D.out.b.range Tryd.underlying25 rfl (info_hash32 _) rfl ?_
              | refine wpList_load_want 25 _ rfl (w.heap.size + 1 + 1) 0 rfl (rowV 32 c) _ D.out.c.range Tryd.underlying25 rfl (info_hash32 _) rfl ?_
              | (go_at_call 14; refine (less_any _ _ _).mono ?_; rintro e w' ⟨rfl, hb⟩; replace D := hide (D.out.after hb); clear hb))
            go_ret
            exact ⟨rfl, D.out.below⟩
          | false =>
            go_wp2_with (first
              | refine wpList_load_want 25 _ rfl w.heap.size 0 rfl (rowV 32 a) _ D.out.a.range Tryd.underlying25 rfl (info_hash32 _) rfl ?_
              | refine wpList_load_want 25 _ rfl (w.heap.size + 1) 0 rfl (rowV 32 b) _ D.out.b.range Tryd.underlying25 rfl (info_hash32 _) rfl ?_
              | refine wpList_load_want 25 _ rfl (w.heap.size + 1 + 1) 0 rfl (rowV 32 c) _ D.out.c.range Tryd.underlying25 rfl (info_hash32 _) rfl ?_
              | (go_at_call 14; refine (less_any _ _ _).mono ?_; rintro e w' ⟨rfl, hb⟩; replace D := hide (D.out.after hb); clear hb))
            go_ret
            exact ⟨rfl, D.out.below⟩
        | false =>
          cases hy : lessB b a with
          | true =>
            have hs : sameH a b = false := by rw [sameH_comm]; exact less_same hy
            go_wp2_with (first
              | refine wpList_load_want 25 _ rfl w.heap.size 0 rfl (rowV 32 a) _ D.out.a.range Tryd.underlying25 rfl (info_hash32 _) rfl ?_
              | refine wpList_load_want 25 _ rfl (w.heap.size + 1) 0 rfl (rowV 32 b) _ D.out.b.range Tryd.underlying25 rfl (info_hash32 _) rfl ?_
              | refine wpList_load_want 25 _ rfl (w.heap.size + 1 + 1) 0 rfl (rowV 32 c) _ D.out.c.range Tryd.underlying25 rfl (info_hash32 _) rfl ?_
              | (go_at_call 14; refine (less_any _ _ _).mono ?_; rintro e w' ⟨rfl, hb⟩; replace D := hide (D.out.after hb); clear hb))
            go_ret
            exact ⟨rfl, D.out.below⟩
          | false =>
            have hs : sameH a b = true := less_eq hx hy
            go_wp2_with (first
              | refine wpList_load_want 25 _ rfl w.heap.size 0 rfl (rowV 32 a) _ D.out.a.range Tryd.underlying25 rfl (info_hash32 _) rfl ?_
              | refine wpList_load_want 25 _ rfl (w.heap.size + 1) 0 rfl (rowV 32 b) _ D.out.b.range Tryd.underlying25 rfl (info_hash32 _) rfl ?_
              | refine wpList_load_want 25 _ rfl (w.heap.size + 1 + 1) 0 rfl (rowV 32 c) _ D.out.c.range Tryd.underlying25 rfl (info_hash32 _) rfl ?_
              | (go_at_call 14; refine (less_any _ _ _).mono ?_; rintro e w' ⟨rfl, hb⟩; replace D := hide (D.out.after hb); clear hb))
            go_ret
            exact ⟨rfl, D.out.below⟩
    · obtain rfl : k = 32 := by have := HK.out; omega
      obtain rfl : gk = 0 := by have := HK.out; omega
      have HV : Hid (false = lessB a b) := HL.out
      clear HL HK hlt
      go_wp2
      have hx : lessB a b = false := HV.out.symm
      clear HV
      obtain ⟨C, hC⟩ : ∃ C : World → Prop, C = fun w' => LD w w' a b c := ⟨_, rfl⟩
      have HC := hide hC
      have HC0 : Hid (C wr.drew) := by rw [hC]; exact D.out.after (bMe wr).drew
      clear hC D
      refine wp_region_class C (by kernel_rfl) (by kernel_rfl) HC0.out ?_
      repeat (go_big_quiet_step (first
        | (intro _; rfl)
        | (intro hx2; go_at_call 14; with_reducible refine (less_lit a b _).mono ?_; rintro e w' ⟨rfl, hb⟩; refine ⟨rfl, ?_⟩; rw [HC.out] at hx2 ⊢; exact hx2.after hb)
        | (intro hx2; go_at_call 14; with_reducible refine (less_lit b a _).mono ?_; rintro e w' ⟨rfl, hb⟩; refine ⟨rfl, ?_⟩; rw [HC.out] at hx2 ⊢; exact hx2.after hb)
        | (intro hx2; rw [HC.out] at hx2; obtain ⟨c0, c1, c2, c3, c4, c5, c6, c7, c8, c9, c10, c11, c12, c13, c14, c15, c16, c17, c18, c19, c20, c21, c22, c23, c24, c25, c26, c27, c28, c29, c30, c31⟩ := held32 hx2.a; simp only [c0, c1, c2, c3, c4, c5, c6, c7, c8, c9, c10, c11, c12, c13, c14, c15, c16, c17, c18, c19, c20, c21, c22, c23, c24, c25, c26, c27, c28, c29, c30, c31, Result.andThen]; exact ⟨trivial, rfl⟩)
        | (intro hx2; rw [HC.out] at hx2; obtain ⟨c0, c1, c2, c3, c4, c5, c6, c7, c8, c9, c10, c11, c12, c13, c14, c15, c16, c17, c18, c19, c20, c21, c22, c23, c24, c25, c26, c27, c28, c29, c30, c31⟩ := held32 hx2.b; simp only [c0, c1, c2, c3, c4, c5, c6, c7, c8, c9, c10, c11, c12, c13, c14, c15, c16, c17, c18, c19, c20, c21, c22, c23, c24, c25, c26, c27, c28, c29, c30, c31, Result.andThen]; exact ⟨trivial, rfl⟩)))
      refine wpQuiet_nil ?_
      intro w6 hw6
      rw [HC.out] at hw6
      have D := hide hw6
      clear hw6 HC HC0
      cases hy : lessB b a with
      | true =>
        have hs : sameH a b = false := by rw [sameH_comm]; exact less_same hy
        go_wp2_with (first
          | refine wpList_load_want 25 _ rfl w.heap.size 0 rfl (rowV 32 a) _ D.out.a.range Tryd.underlying25 rfl (info_hash32 _) rfl ?_
          | refine wpList_load_want 25 _ rfl (w.heap.size + 1) 0 rfl (rowV 32 b) _ D.out.b.range Tryd.underlying25 rfl (info_hash32 _) rfl ?_
          | refine wpList_load_want 25 _ rfl (w.heap.size + 1 + 1) 0 rfl (rowV 32 c) _ D.out.c.range Tryd.underlying25 rfl (info_hash32 _) rfl ?_
          | (go_at_call 14; refine (less_any _ _ _).mono ?_; rintro e w' ⟨rfl, hb⟩; replace D := hide (D.out.after hb); clear hb))
        go_ret
        exact ⟨rfl, D.out.below⟩
      | false =>
        have hs : sameH a b = true := less_eq hx hy
        go_wp2_with (first
          | refine wpList_load_want 25 _ rfl w.heap.size 0 rfl (rowV 32 a) _ D.out.a.range Tryd.underlying25 rfl (info_hash32 _) rfl ?_
          | refine wpList_load_want 25 _ rfl (w.heap.size + 1) 0 rfl (rowV 32 b) _ D.out.b.range Tryd.underlying25 rfl (info_hash32 _) rfl ?_
          | refine wpList_load_want 25 _ rfl (w.heap.size + 1 + 1) 0 rfl (rowV 32 c) _ D.out.c.range Tryd.underlying25 rfl (info_hash32 _) rfl ?_
          | (go_at_call 14; refine (less_any _ _ _).mono ?_; rintro e w' ⟨rfl, hb⟩; replace D := hide (D.out.after hb); clear hb))
        go_ret
        exact ⟨rfl, D.out.below⟩
end Go.Proofs.YthfijigjpaidaaaDoor
