/- The contract of sponsionlaw11.lives over this translation. -/
import Derived.Test.YtjkhboejhcbdpaaDoorProofMake
import Derived.Test.YtjkhboejhcbdpaaDoorProofFit
import Derived.Test.YtjkhboejhcbdpaaDoorClassy
namespace Go.Proofs.YtjkhboejhcbdpaaDoor
open Go.RowKit Go.Lib
attribute [local go_sem] setCell_drewN alloc_drewN eqHash

theorem fill_hs2 (x y : Hs) (z : Array Value) (hz : z.size = 64) : Instr.fill (fun i => some (i * 32, 32)) z [(0, .agg (rowV 32 x).toArray), (1, .agg (rowV 32 y).toArray)] = some (hC [x, y]).toArray := by
  have h := Great.fill_whole (s := 32) (by omega) [.agg (rowV 32 x).toArray, .agg (rowV 32 y).toArray] z (fun v hv => by
    simp at hv
    rcases hv with rfl | rfl
    · show (rowV 32 x).toArray.size = 32; rw [List.size_toArray, rowV_length]
    · show (rowV 32 y).toArray.size = 32; rw [List.size_toArray, rowV_length]) (by rw [hz]; rfl)
  have e : (([.agg (rowV 32 x).toArray, .agg (rowV 32 y).toArray] : List Value).flatMap fun v => v.cells.toList) = hC [x, y] := by simp [Value.cells, hC]
  rw [e] at h
  exact h
theorem wpList_build_hs2 {ops : Array Oper} {rest : List Oper} {o : Oper} {a : Act} {w : World} {Q : Exit → Act → World → Prop} (hg : o.guard = none) (s u : Operand) (ho : o.op = .buildSlice 22 2 #[(0, s), (1, u)]) (x y : Hs) (hs : a.eval s = .agg (rowV 32 x).toArray) (hu : a.eval u = .agg (rowV 32 y).toArray)
    (h : wpList Tryd.prog ops Q rest (a.put o.dst (.slice (some ⟨w.heap.size, 0, none⟩) 2 2)) (w.alloc (.cells (hC [x, y]).toArray 28))) : wpList Tryd.prog ops Q (o :: rest) a w := by
  obtain ⟨i0, z0, hi, hz0, hzs, hz1, hz2⟩ := info_hs
  refine wpList_buildSlice hg 22 28 2 #[(0, s), (1, u)] ho (hC [x, y]).toArray i0 z0 Tryd.underlying22 hi hz0 (by rw [hz1]; omega) (by rw [hz1]; omega) ?_ h
  rw [hz1]
  simp only [List.map_toArray, List.map_cons, List.map_nil, hs, hu]
  exact fill_hs2 x y _ (by simp)
theorem two_hs (w : World) (x y : Hs) {g : Nat} (e : w.heap.size = g) : Hl (w.alloc (.cells (hC [x, y]).toArray 28)) (some ⟨g, 0, none⟩) [x, y] := by
  subst e
  refine .inr ⟨_, _, rfl, by simp, fun j z hz i v hv => ?_⟩
  rw [World.cell?_alloc_at _ _ _ _ rfl]
  have := hC_get [x, y] j z hz i v hv
  simpa using this
/-- The example's leaves. -/
def a1 : Hs := fun j => if j = 0 then 1 else 0
def b1 : Hs := fun j => if j = 0 then 2 else 0
theorem a1_ok : Hok a1 := fun j => by unfold a1; split <;> omega
theorem b1_ok : Hok b1 := fun j => by unfold b1; split <;> omega
set_option maxRecDepth 100000 in
set_option maxHeartbeats 8000000 in
theorem lives11_any {w : World} (ht : Tab w 1) :
    Calls Tryd.prog 7 #[] w fun e w' => e = .returned (.bool true) ∧ Below w.heap.size w w' := by
  have HT := hide ht
  clear ht
  have HL := hide (two_hs w a1 b1 (g := w.heap.size) rfl)
  have B0 : Hid (Below w.heap.size w (w.alloc (.cells (hC [a1, b1]).toArray 28))) := bAl (bMe w)
  go_enter Tryd.func7, Tryd.ntmps7
  go_wp2_with (refine wpList_build_hs2 rfl _ _ rfl a1 b1 rfl rfl ?_)
  generalize w.alloc (.cells (hC [a1, b1]).toArray 28) = w1 at *
  refine (made_any 1 (by omega) (some ⟨w.heap.size, 0, none⟩) 2 [a1, b1] HL.out (fun f hf => by simp at hf; rcases hf with rfl | rfl; exact a1_ok; exact b1_ok) (by simp) (by simp) (HT.out.below B0.out)).mono ?_
  rintro e w2 ⟨rfl, hm⟩
  obtain ⟨S, hT, hlow⟩ := hm.tree
  have T := hide hT
  have B := hide (bOn B0.out hm.below)
  clear hm hT hlow B0 HL
  go_wp2_with fail
  refine (make_yes T.out 2 0 (by simp) (by omega) (HT.out.below B.out)).mono ?_
  rintro e w3 ⟨rfl, hb⟩
  replace B := hide (bOn B.out hb)
  clear hb T
  obtain ⟨R, hR⟩ : ∃ R, mp (List.take 2 [a1, b1]) 1 0 = R := ⟨_, rfl⟩
  have HR0 : Hid (R 0 = b1) := by show _ = _; rw [← hR]; rfl
  rw [hR]
  have hzp := fun w => zeroPf w
  have E1 : Hid (Bxs w3 (w3.alloc (.cells (rowV 1024 (pc pz)).toArray 29)) [(w3.heap.size, 1024, pc pz)]) := (Bxs.none w3).add rfl (BRow.box w3 1024 _ _ rfl)
  clear hR
  go_wp2_with (refine wpList_store_stop rfl 29 _ _ rfl w3.heap.size 0 (rowV 1024 (pc R)) rfl rfl ((E1.out.get 0 rfl).thereA (pc R)) (info_pfA (pc R)) (rowV_oneA _ _) ?_)
  intro w4 hw4
  have E : Hid (Bxs w3 w4 [(w3.heap.size, 1024, pc R)]) := by
    show Bxs _ _ _
    rw [hw4.out]; exact E1.out.put 0 rfl (pc R)
  clear hw4 E1
  replace B : Hid (Below w.heap.size w w4) := bOn B.out E.out.below
  have hrow : Hid (w4.rangeAt w3.heap.size 0 (rowV 32 b1)) := by
    have := (E.out.get 0 rfl).lev 0 (by omega)
    rwa [HR0.out] at this
  generalize w3.heap.size = g at *
  have hse : ∀ w, (Op.equalIn 10000 28 (.agg (rowV 32 b1).toArray) (.agg #[.int .u8 2, .int .u8 0, .int .u8 0, .int .u8 0, .int .u8 0, .int .u8 0, .int .u8 0, .int .u8 0, .int .u8 0, .int .u8 0, .int .u8 0, .int .u8 0, .int .u8 0, .int .u8 0, .int .u8 0, .int .u8 0, .int .u8 0, .int .u8 0, .int .u8 0, .int .u8 0, .int .u8 0, .int .u8 0, .int .u8 0, .int .u8 0, .int .u8 0, .int .u8 0, .int .u8 0, .int .u8 0, .int .u8 0, .int .u8 0, .int .u8 0, .int .u8 0])).run Tryd.prog w = .ok true w := fun w => by
    have h := eqHash b1 b1 w
    rw [sameH_self] at h
    exact h
  go_wp2_with (refine wpList_load_want 28 _ rfl g 0 rfl (rowV 32 b1) _ hrow.out Tryd.underlying28 rfl (info_hash32 _) rfl ?_)
  go_ret
  exact ⟨rfl, B.out⟩
end Go.Proofs.YtjkhboejhcbdpaaDoor
