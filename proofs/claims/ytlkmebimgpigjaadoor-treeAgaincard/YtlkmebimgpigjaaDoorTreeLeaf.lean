/- The contract of a tree's Leaf over this translation. -/
import Derived.Test.YtlkmebimgpigjaaDoorTreeSmall
namespace Go.Proofs.YtlkmebimgpigjaaDoor
open Go.RowKit Go.Lib
attribute [local go_sem] setCell_drewN alloc_drewN

theorem results_two {P : Program} {fn : Func} {p u : Tmp} {ty : TypeId} (h : fn.results = #[.cell p ty, .tmp u]) {tmps : Array Value} {w : World} {ad : Addr} {v x : Value} (hp : tmps.getD p undef = .pointer (some ad)) (hx : tmps.getD u undef = x) (hl : (loadVar ty ad).run P w = .ok v w) :
    (results fn tmps).run P w = .ok (.tuple #[v, x]) w := by
  have hp' : tmps[p]?.getD undef = .pointer (some ad) := by simpa using hp
  have hx' : tmps[u]?.getD undef = x := by simpa using hx
  simp [results, h, hp', hx', asAddr, hl]
/-- The sum of noughts. -/
def hz : Hs := fun _ => 0
theorem BRow.zeroed (w : World) {g : Nat} (e : w.heap.size = g) : BRow (w.alloc (.cells #[.int .u8 0, .int .u8 0, .int .u8 0, .int .u8 0, .int .u8 0, .int .u8 0, .int .u8 0, .int .u8 0, .int .u8 0, .int .u8 0, .int .u8 0, .int .u8 0, .int .u8 0, .int .u8 0, .int .u8 0, .int .u8 0, .int .u8 0, .int .u8 0, .int .u8 0, .int .u8 0, .int .u8 0, .int .u8 0, .int .u8 0, .int .u8 0, .int .u8 0, .int .u8 0, .int .u8 0, .int .u8 0, .int .u8 0, .int .u8 0, .int .u8 0, .int .u8 0] 32)) g 32 hz := BRow.zeros32 w e
theorem hz_agg : (rowV 32 hz).toArray = #[.int .u8 0, .int .u8 0, .int .u8 0, .int .u8 0, .int .u8 0, .int .u8 0, .int .u8 0, .int .u8 0, .int .u8 0, .int .u8 0, .int .u8 0, .int .u8 0, .int .u8 0, .int .u8 0, .int .u8 0, .int .u8 0, .int .u8 0, .int .u8 0, .int .u8 0, .int .u8 0, .int .u8 0, .int .u8 0, .int .u8 0, .int .u8 0, .int .u8 0, .int .u8 0, .int .u8 0, .int .u8 0, .int .u8 0, .int .u8 0, .int .u8 0, .int .u8 0] := rfl
set_option maxRecDepth 100000 in
set_option maxHeartbeats 4000000 in
theorem leaf_yes {w : World} {g d : Nat} {S : Nat → Prop} {M : Nat → List Hs} (h : Rw w g S d M) (hl : (M 0).length ≤ 1000000) {i : Nat} {x : Hs} (hx : (M 0)[i]? = some x) :
    Calls Tryd.prog 13 #[.pointer (some ⟨g, 0, none⟩), .int .u64 i] w fun e w' => e = .returned (.tuple #[.agg (rowV 32 x).toArray, .bool true]) ∧ Below w.heap.size w w' := by
  have R := hide (BRow.zeros32 w (g := w.heap.size) rfl)
  have B : Hid (Below w.heap.size w (w.alloc (.cells #[.int .u8 0, .int .u8 0, .int .u8 0, .int .u8 0, .int .u8 0, .int .u8 0, .int .u8 0, .int .u8 0, .int .u8 0, .int .u8 0, .int .u8 0, .int .u8 0, .int .u8 0, .int .u8 0, .int .u8 0, .int .u8 0, .int .u8 0, .int .u8 0, .int .u8 0, .int .u8 0, .int .u8 0, .int .u8 0, .int .u8 0, .int .u8 0, .int .u8 0, .int .u8 0, .int .u8 0, .int .u8 0, .int .u8 0, .int .u8 0, .int .u8 0, .int .u8 0] 32))) := bAl (bMe w)
  have H := hide (h.below B.out)
  have hil : i < (M 0).length := (List.getElem?_eq_some_iff.1 hx).1
  have hli : ((M 0).length : Int) ≤ 1000000 := by omega
  have hni : (i : Int) < ((M 0).length : Int) := by omega
  have hni2 : ¬ ((M 0).length : Int) ≤ (i : Int) := by omega
  have hlt := hide h.lt
  clear h
  go_enter Tryd.func13, Tryd.ntmps13
  go_wp2_with fail
  generalize w.alloc (.cells #[.int .u8 0, .int .u8 0, .int .u8 0, .int .u8 0, .int .u8 0, .int .u8 0, .int .u8 0, .int .u8 0, .int .u8 0, .int .u8 0, .int .u8 0, .int .u8 0, .int .u8 0, .int .u8 0, .int .u8 0, .int .u8 0, .int .u8 0, .int .u8 0, .int .u8 0, .int .u8 0, .int .u8 0, .int .u8 0, .int .u8 0, .int .u8 0, .int .u8 0, .int .u8 0, .int .u8 0, .int .u8 0, .int .u8 0, .int .u8 0, .int .u8 0, .int .u8 0] 32) = w1 at *
  refine (len_any H.out hl).mono ?_
  rintro e w2 ⟨rfl, rfl⟩
  obtain ⟨v, hc, hr, _⟩ := H.out.row (k := 0) (by omega)
  obtain ⟨ao, cap, rfl, _, _, _, hw⟩ := hr.form
  obtain ⟨b, off, rfl, _, hra⟩ := hw.get hx
  have HRA := hide hra
  have hc1 : w2.cell? ⟨g, 1, none⟩ = some (.slice (some ⟨b, off, none⟩) (M 0).length cap) := hc
  clear hc hr hw hra hx
  generalize (M 0).length = n at *
  go_wp2_with (first
    | refine wpList_load_mid rfl 32 _ rfl b (off + i * 32) rfl (rowV 32 x) _ HRA.out Tryd.underlying32 rfl (info_hash32 _) ?_
    | refine wpList_store_mid rfl 32 _ _ rfl w.heap.size 0 (rowV 32 x).toArray rfl rfl (R.out.thereA _) (info_hash32A _) (rowV_oneA _ _) ?_)
  refine bodyPost_ret (v := .tuple #[.agg (rowV 32 x).toArray, .bool true]) ?_ rfl ⟨rfl, setCells_below B.out (Nat.le_refl _) _ _⟩
  have hlv := run_loadVar_mid (P := Tryd.prog) _ _ _ _ _ _ (R.out.stored x).range Tryd.underlying32 rfl (info_hash32 _)
  exact results_two Tryd.results13 rfl rfl hlv
set_option maxRecDepth 100000 in
set_option maxHeartbeats 4000000 in
theorem leaf_no {w : World} {g d : Nat} {S : Nat → Prop} {M : Nat → List Hs} (h : Rw w g S d M) (hl : (M 0).length ≤ 1000000) {i : Int} (hi : ((M 0).length : Int) ≤ i) :
    Calls Tryd.prog 13 #[.pointer (some ⟨g, 0, none⟩), .int .u64 i] w fun e w' => e = .returned (.tuple #[.agg (rowV 32 hz).toArray, .bool false]) ∧ Below w.heap.size w w' := by
  have R := hide (BRow.zeros32 w (g := w.heap.size) rfl)
  have B : Hid (Below w.heap.size w (w.alloc (.cells #[.int .u8 0, .int .u8 0, .int .u8 0, .int .u8 0, .int .u8 0, .int .u8 0, .int .u8 0, .int .u8 0, .int .u8 0, .int .u8 0, .int .u8 0, .int .u8 0, .int .u8 0, .int .u8 0, .int .u8 0, .int .u8 0, .int .u8 0, .int .u8 0, .int .u8 0, .int .u8 0, .int .u8 0, .int .u8 0, .int .u8 0, .int .u8 0, .int .u8 0, .int .u8 0, .int .u8 0, .int .u8 0, .int .u8 0, .int .u8 0, .int .u8 0, .int .u8 0] 32))) := bAl (bMe w)
  have H := hide (h.below B.out)
  clear h
  go_enter Tryd.func13, Tryd.ntmps13
  go_wp2_with fail
  generalize w.alloc (.cells #[.int .u8 0, .int .u8 0, .int .u8 0, .int .u8 0, .int .u8 0, .int .u8 0, .int .u8 0, .int .u8 0, .int .u8 0, .int .u8 0, .int .u8 0, .int .u8 0, .int .u8 0, .int .u8 0, .int .u8 0, .int .u8 0, .int .u8 0, .int .u8 0, .int .u8 0, .int .u8 0, .int .u8 0, .int .u8 0, .int .u8 0, .int .u8 0, .int .u8 0, .int .u8 0, .int .u8 0, .int .u8 0, .int .u8 0, .int .u8 0, .int .u8 0, .int .u8 0] 32) = w1 at *
  refine (len_any H.out hl).mono ?_
  rintro e w2 ⟨rfl, rfl⟩
  generalize (M 0).length = n at *
  go_wp2_with (first
    | refine wpList_store_mid rfl 32 _ _ rfl w.heap.size 0 (rowV 32 hz).toArray rfl rfl (R.out.thereA _) (info_hash32A _) (rowV_oneA _ _) ?_)
  refine bodyPost_ret (v := .tuple #[.agg (rowV 32 hz).toArray, .bool false]) ?_ rfl ⟨rfl, setCells_below B.out (Nat.le_refl _) _ _⟩
  have hlv := run_loadVar_mid (P := Tryd.prog) _ _ _ _ _ _ (R.out.stored hz).range Tryd.underlying32 rfl (info_hash32 _)
  exact results_two Tryd.results13 rfl rfl hlv
set_option maxRecDepth 100000 in
set_option maxHeartbeats 4000000 in
theorem leaf_nil {w : World} {i : Int} (hi : 0 ≤ i) :
    Calls Tryd.prog 13 #[.pointer none, .int .u64 i] w fun e w' => e = .returned (.tuple #[.agg (rowV 32 hz).toArray, .bool false]) ∧ Below w.heap.size w w' := by
  have R := hide (BRow.zeros32 w (g := w.heap.size) rfl)
  have B : Hid (Below w.heap.size w (w.alloc (.cells #[.int .u8 0, .int .u8 0, .int .u8 0, .int .u8 0, .int .u8 0, .int .u8 0, .int .u8 0, .int .u8 0, .int .u8 0, .int .u8 0, .int .u8 0, .int .u8 0, .int .u8 0, .int .u8 0, .int .u8 0, .int .u8 0, .int .u8 0, .int .u8 0, .int .u8 0, .int .u8 0, .int .u8 0, .int .u8 0, .int .u8 0, .int .u8 0, .int .u8 0, .int .u8 0, .int .u8 0, .int .u8 0, .int .u8 0, .int .u8 0, .int .u8 0, .int .u8 0] 32))) := bAl (bMe w)
  go_enter Tryd.func13, Tryd.ntmps13
  go_wp2_with fail
  generalize w.alloc (.cells #[.int .u8 0, .int .u8 0, .int .u8 0, .int .u8 0, .int .u8 0, .int .u8 0, .int .u8 0, .int .u8 0, .int .u8 0, .int .u8 0, .int .u8 0, .int .u8 0, .int .u8 0, .int .u8 0, .int .u8 0, .int .u8 0, .int .u8 0, .int .u8 0, .int .u8 0, .int .u8 0, .int .u8 0, .int .u8 0, .int .u8 0, .int .u8 0, .int .u8 0, .int .u8 0, .int .u8 0, .int .u8 0, .int .u8 0, .int .u8 0, .int .u8 0, .int .u8 0] 32) = w1 at *
  refine len_nil.mono ?_
  rintro e w2 ⟨rfl, rfl⟩
  go_wp2_with (first
    | refine wpList_store_mid rfl 32 _ _ rfl w.heap.size 0 (rowV 32 hz).toArray rfl rfl (R.out.thereA _) (info_hash32A _) (rowV_oneA _ _) ?_)
  refine bodyPost_ret (v := .tuple #[.agg (rowV 32 hz).toArray, .bool false]) ?_ rfl ⟨rfl, setCells_below B.out (Nat.le_refl _) _ _⟩
  have hlv := run_loadVar_mid (P := Tryd.prog) _ _ _ _ _ _ (R.out.stored hz).range Tryd.underlying32 rfl (info_hash32 _)
  exact results_two Tryd.results13 rfl rfl hlv
end Go.Proofs.YtlkmebimgpigjaaDoor
