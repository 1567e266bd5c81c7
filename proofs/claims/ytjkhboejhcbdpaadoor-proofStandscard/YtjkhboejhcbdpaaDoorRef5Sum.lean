/- What the walk of sponsionref05.Sum wants, over this translation. -/
import Derived.Test.YtjkhboejhcbdpaaDoorRef5
import Derived.Test.YtjkhboejhcbdpaaDoorRows32
import Derived.Deep.RegionHeld3
import Derived.BigRegion
import Derived.BigQuiet
namespace Go.Proofs.YtjkhboejhcbdpaaDoor
open Go.RowKit Go.Lib
attribute [local go_sem] setCell_drewN alloc_drewN

/-- The table of the rounds lies in block g. -/
def Tab (w : World) (g : Nat) : Prop := g < w.heap.size ∧ ∀ j, j < 64 → w.cell? ⟨g, j, none⟩ = some (.int .u32 (keysL.getD j 0))
theorem Tab.below {w w' : World} {g : Nat} (h : Tab w g) (hb : Below w.heap.size w w') : Tab w' g :=
  ⟨Nat.lt_of_lt_of_le h.1 hb.size, fun j hj => (hb.cell (p := ⟨g, j, none⟩) h.1).trans (h.2 j hj)⟩
theorem turn_lit (x m : Int) (n : Nat) (w : World) (e : m = (n : Int)) (hx : U32 x) (hn : n ≤ 32) :
    Calls Tryd.prog 46 #[.int .u32 x, .int .i64 m, .bool true] w fun e w' => e = .returned (.int .u32 (rotr x n)) ∧ w' = w := by
  subst e; exact turn_any x n w hx hn
theorem move_lit (x m : Int) (n : Nat) (w : World) (e : m = (n : Int)) (hx : U32 x) (hn : n ≤ 32) :
    Calls Tryd.prog 46 #[.int .u32 x, .int .i64 m, .bool false] w fun e w' => e = .returned (.int .u32 (x / 2 ^ n)) ∧ w' = w := by
  subst e; exact move_any x n w hx hn
/-- A block of the bytes. -/
def blk64 (L : List Int) (k : Nat) : List Int := (L.drop (64 * k)).take 64
theorem blk64_get (L : List Int) (k j : Nat) (hj : j < 64) : (blk64 L k).getD j 0 = L.getD (64 * k + j) 0 := by
  unfold blk64
  simp [List.getD_eq_getElem?_getD, hj]
theorem blk64_byt {L : List Int} (h : Byt L) (k : Nat) : Byt (blk64 L k) := (h.drop _).take _
theorem wrap4 (a b c d : Int) : IntKind.u32.wrap (IntKind.u32.wrap (IntKind.u32.wrap (a + b) + c) + d) = m32 (a + b + c + d) := by
  rw [IntKind.wrap_u32, IntKind.wrap_u32, IntKind.wrap_u32]; unfold m32; omega
theorem cut_mid (b n cap lo hi : Nat) (h1 : lo ≤ hi) (h2 : hi ≤ cap) (x y : Int) (hx : x = (lo : Int)) (hy : y = (hi : Int)) (h3 : lo < cap) (w : World) :
    (Instr.sliceAt 67 (.slice (some ⟨b, 0, none⟩) n cap) (some (.int .i64 x)) (some (.int .i64 y)) none).run Tryd.prog w = .ok (.slice (some ⟨b, lo, none⟩) (hi - lo) (cap - lo)) w := by
  subst hx hy
  have hs : (sizeOf (Tryd.prog.elem 67)).run Tryd.prog w = .ok 1 w := by kernel_rfl
  rw [run_sliceAt_slice w _ _ _ _ _ (by kernel_rfl), run_slice_lh w _ (some ⟨b, 0, none⟩) n cap (by kernel_rfl) .i64 .i64 lo hi (by omega) (by omega) (by omega), hs]
  simp [Result.andThen, sliced, Addr.add_mid, show cap ≠ lo by omega]
theorem sum4w (za zb x y : Int) : (((za + zb) % 4294967296 + xr3 (rotr x 7) (rotr x 18) (x / 8)) % 4294967296 + xr3 (rotr y 17) (rotr y 19) (y / 1024)) % 4294967296 = m32 (za + zb + sg0 x + sg1 y) := by
  unfold m32 sg0 sg1
  rw [show (2 : Int) ^ 3 = 8 from rfl, show (2 : Int) ^ 10 = 1024 from rfl]
  omega
/-- What stands while blocks are summed. -/
structure DS (w0 w : World) (g2 g3 b : Nat) (L : List Int) (hf : Nat → Int) : Prop where
  res : BRow w g2 32 (fun _ => 0)
  h : R32 w g3 8 hf
  by8 : BRow w b L.length (fun j => L.getD j 0)
  tab : Tab w 0
  lo : w0.heap.size ≤ g2 ∧ g2 < g3 ∧ g3 < b ∧ 0 < w0.heap.size
  below : Below w0.heap.size w0 w
theorem DS.after {w0 w w' : World} {g2 g3 b : Nat} {L : List Int} {hf : Nat → Int} (h : DS w0 w g2 g3 b L hf) (hb : Below w.heap.size w w') : DS w0 w' g2 g3 b L hf :=
  ⟨h.res.after hb rfl, h.h.after hb rfl, h.by8.after hb rfl, h.tab.below hb, h.lo, bOn h.below hb⟩
theorem DS.other {w0 w : World} {g2 g3 b : Nat} {L : List Int} {hf : Nat → Int} (h : DS w0 w g2 g3 b L hf) {p : Addr} (hp : b < p.block) (v : Value) : DS w0 (w.setCell p v) g2 g3 b L hf := by
  obtain ⟨l1, l2, l3, l4⟩ := h.lo
  refine ⟨h.res.other (by omega) v, h.h.other (by omega) v, h.by8.other (by omega) v, ⟨by simpa [World.setCell] using h.tab.1, fun j hj => ?_⟩, h.lo, h.below.setCell (by omega) v⟩
  exact (World.cell?_of_block (w := w) (a := ⟨_, j, none⟩) (Below.heap_setCell _ _ _ _ (by simp only []; omega))).trans (h.tab.2 j hj)
theorem R32.zeros (w : World) (t : TypeId) {g : Nat} (e : w.heap.size = g) : R32 (w.alloc (.cells (Array.replicate 64 (.int .u32 0)) t)) g 64 (fun _ => 0) := by
  subst e
  exact ⟨by simp, fun j hj => by rw [World.cell?_alloc_at _ _ _ _ rfl]; simp [hj], fun o => World.frozen?_alloc_at _ _ _ _ rfl⟩
theorem R32.zeros' (w : World) {g : Nat} (e : w.heap.size = g) : R32 (w.alloc (.cells #[.int .u32 0, .int .u32 0, .int .u32 0, .int .u32 0, .int .u32 0, .int .u32 0, .int .u32 0, .int .u32 0, .int .u32 0, .int .u32 0, .int .u32 0, .int .u32 0, .int .u32 0, .int .u32 0, .int .u32 0, .int .u32 0, .int .u32 0, .int .u32 0, .int .u32 0, .int .u32 0, .int .u32 0, .int .u32 0, .int .u32 0, .int .u32 0, .int .u32 0, .int .u32 0, .int .u32 0, .int .u32 0, .int .u32 0, .int .u32 0, .int .u32 0, .int .u32 0, .int .u32 0, .int .u32 0, .int .u32 0, .int .u32 0, .int .u32 0, .int .u32 0, .int .u32 0, .int .u32 0, .int .u32 0, .int .u32 0, .int .u32 0, .int .u32 0, .int .u32 0, .int .u32 0, .int .u32 0, .int .u32 0, .int .u32 0, .int .u32 0, .int .u32 0, .int .u32 0, .int .u32 0, .int .u32 0, .int .u32 0, .int .u32 0, .int .u32 0, .int .u32 0, .int .u32 0, .int .u32 0, .int .u32 0, .int .u32 0, .int .u32 0, .int .u32 0] 89)) g 64 (fun _ => 0) := R32.zeros w 89 e
theorem padded_length (l : List Int) : (padded l).length = l.length + 1 + noughts l.length + 8 := by
  unfold padded lenB; simp; omega
theorem padded_len (l : List Int) : ∃ nb, (padded l).length = 64 * nb := by
  refine ⟨(l.length + 1 + noughts l.length + 8) / 64, ?_⟩
  rw [padded_length]; unfold noughts; omega
theorem padded_pos (l : List Int) : 0 < (padded l).length := by rw [padded_length]; omega
theorem padded_le (l : List Int) (h : l.length ≤ 100000) : (padded l).length ≤ 200000 := by rw [padded_length]; unfold noughts; omega
theorem padded_byt {l : List Int} (h : Byt l) : Byt (padded l) := by
  intro x hx
  unfold padded at hx
  rcases List.mem_append.1 hx with hx | hx
  · exact h x hx
  · rcases List.mem_cons.1 hx with rfl | hx
    · omega
    · rcases List.mem_append.1 hx with hx | hx
      · have := List.eq_of_mem_replicate hx; omega
      · unfold lenB at hx
        obtain ⟨i, _, rfl⟩ := List.mem_map.1 hx
        omega
end Go.Proofs.YtjkhboejhcbdpaaDoor
