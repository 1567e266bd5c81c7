/- A sum that goes on, in memory (digest.State); plain lists of bytes cut into blocks. -/
import Derived.Test.YtjkhboejhcbdpaaDoorDigThrough
import Derived.Test.YtjkhboejhcbdpaaDoorBar
import Derived.Laws.CopyOwn
namespace Go.Proofs.YtjkhboejhcbdpaaDoor
open Go.RowKit Go.Lib

/-- Block g of w holds a State: the eight, a block of bytes, a count. -/
structure SB (w : World) (g : Nat) (h bl : Nat → Int) (n : Nat) : Prop where
  lt : g < w.heap.size
  ch : ∀ j, j < 8 → w.cell? ⟨g, j, none⟩ = some (.int .u32 (h j))
  cb : ∀ j, j < 64 → w.cell? ⟨g, 8 + j, none⟩ = some (.int .u8 (bl j))
  cn : w.cell? ⟨g, 72, none⟩ = some (.int .u64 n)
  fr : ∀ o, w.frozen? ⟨g, o, none⟩ = false
theorem SB.of {w w' : World} {g n : Nat} {h bl : Nat → Int} (s : SB w g h bl n) (hs : w.heap.size ≤ w'.heap.size) (hb : w'.heap[g]? = w.heap[g]?) : SB w' g h bl n :=
  ⟨Nat.lt_of_lt_of_le s.lt hs, fun j hj => (World.cell?_of_block (w := w) (a := ⟨g, j, none⟩) hb).trans (s.ch j hj), fun j hj => (World.cell?_of_block (w := w) (a := ⟨g, 8 + j, none⟩) hb).trans (s.cb j hj), (World.cell?_of_block (w := w) (a := ⟨g, 72, none⟩) hb).trans s.cn, fun o => (World.frozen?_of_block (w := w) (a := ⟨g, o, none⟩) hb).trans (s.fr o)⟩
theorem SB.after {w w1 w' : World} {g n : Nat} {h bl : Nat → Int} (s : SB w g h bl n) (hb : Below w1.heap.size w1 w') (e : w1.heap = w.heap) : SB w' g h bl n :=
  s.of (by rw [← e]; exact hb.size) (by rw [hb.block g (by rw [e]; exact s.lt), e])
theorem SB.past {w : World} {g n : Nat} {h bl : Nat → Int} (s : SB w g h bl n) (o : Obj) : SB (w.alloc o) g h bl n := s.of (by simp) (Below.heap_alloc _ _ _ s.lt)
theorem SB.bar {w w' : World} {g g' n : Nat} {h bl : Nat → Int} (s : SB w g h bl n) (hb : Bar g' w w') (hne : g ≠ g') : SB w' g h bl n :=
  s.of hb.size (hb.block g s.lt hne)
theorem SB.congr {w : World} {g n : Nat} {h bl h' bl' : Nat → Int} (s : SB w g h bl n) (e1 : ∀ j, j < 8 → h j = h' j) (e2 : ∀ j, j < 64 → bl j = bl' j) : SB w g h' bl' n :=
  ⟨s.lt, fun j hj => by rw [← e1 j hj]; exact s.ch j hj, fun j hj => by rw [← e2 j hj]; exact s.cb j hj, s.cn, s.fr⟩
theorem SB.count {w : World} {g n : Nat} {h bl : Nat → Int} (s : SB w g h bl n) (m : Nat) : SB (w.setCell ⟨g, 72, none⟩ (.int .u64 m)) g h bl m := by
  have c := s.cn
  refine ⟨by simpa [World.setCell] using s.lt, fun j hj => ?_, fun j hj => ?_, by simp [go_sem, c], fun o => by simp [go_sem, s.fr]⟩
  · have := s.ch j hj
    have e : j ≠ 72 := by omega
    simp [go_sem, this]
    try exact fun h => absurd h e
  · have := s.cb j hj
    have e : 8 + j ≠ 72 := by omega
    simp [go_sem, this]
    try exact fun h => absurd h e
theorem SB.count2 {w : World} {g n : Nat} {h bl : Nat → Int} (s : SB w g h bl n) (m : Nat) (x : Int) (e : x = (m : Int)) : SB (w.setCell ⟨g, 72, none⟩ (.int .u64 x)) g h bl m := by
  subst e; exact s.count m
theorem cell_setCells {w : World} {g o : Nat} {vs : List Value} (ht : w.there g o vs.length) (j : Nat) {v : Value} (hc : w.cell? ⟨g, j, none⟩ = some v) :
    (w.setCells g o vs).cell? ⟨g, j, none⟩ = some (if o ≤ j ∧ j < o + vs.length then vs.getD (j - o) v else v) := by
  by_cases e : o ≤ j ∧ j < o + vs.length
  · rw [if_pos e]
    have hj : j - o < vs.length := by omega
    have := World.rangeAt_setCells_same w g o vs ht (j - o) (vs.getD (j - o) v) (by simp [hj])
    rwa [show o + (j - o) = j by omega] at this
  · rw [if_neg e]
    have hr : w.rangeAt g j [v] := by
      intro i u hu
      have hi : i = 0 := by have := (List.getElem?_eq_some_iff.1 hu).1; simp at this; exact this
      subst hi
      simp at hu
      rw [Nat.add_zero, hc, hu]
    have := World.rangeAt_setCells_apart hr g o vs (.inr (by simp only [List.length_singleton]; omega)) 0 v rfl
    rwa [Nat.add_zero] at this
/-- Bytes laid into the block. -/
def layB (bl : Nat → Int) (q : List Int) (o : Nat) : Nat → Int := fun j => if o ≤ j ∧ j < o + q.length then q.getD (j - o) 0 else bl j
theorem SB.thereB {w : World} {g n : Nat} {h bl : Nat → Int} (s : SB w g h bl n) {o m : Nat} (hm : o + m ≤ 64) : w.there g (8 + o) m := by
  intro j hj
  have := s.cb (o + j) (by omega)
  rw [show 8 + (o + j) = 8 + o + j by omega] at this
  exact ⟨by rw [this]; rfl, s.fr _⟩
theorem SB.lay {w : World} {g n : Nat} {h bl : Nat → Int} (s : SB w g h bl n) (q : List Int) (o : Nat) (ho : o + q.length ≤ 64) : SB (w.setCells g (8 + o) (bv q)) g h (layB bl q o) n := by
  have ht : w.there g (8 + o) (bv q).length := by rw [bv_length]; exact s.thereB ho
  refine ⟨by rw [setCells_size]; exact s.lt, fun j hj => ?_, fun j hj => ?_, ?_, fun x => by rw [World.frozen?_setCells]; exact s.fr x⟩
  · rw [cell_setCells ht j (s.ch j hj), if_neg (by omega)]
  · rw [cell_setCells ht (8 + j) (s.cb j hj), bv_length]
    unfold layB
    by_cases e : o ≤ j ∧ j < o + q.length
    · rw [if_pos (by omega), if_pos e, show 8 + j - (8 + o) = j - o by omega, List.getD_eq_getElem?_getD, bv_get (by omega)]
      rfl
    · rw [if_neg (by omega), if_neg e]
  · rw [cell_setCells ht 72 s.cn, bv_length, if_neg (by omega)]
/-- The eight are stored. -/
abbrev put8 (w : World) (g : Nat) (h : Nat → Int) : World := (((((((w.setCell ⟨g, 0, none⟩ (.int .u32 (h 0))).setCell ⟨g, 1, none⟩ (.int .u32 (h 1))).setCell ⟨g, 2, none⟩ (.int .u32 (h 2))).setCell ⟨g, 3, none⟩ (.int .u32 (h 3))).setCell ⟨g, 4, none⟩ (.int .u32 (h 4))).setCell ⟨g, 5, none⟩ (.int .u32 (h 5))).setCell ⟨g, 6, none⟩ (.int .u32 (h 6))).setCell ⟨g, 7, none⟩ (.int .u32 (h 7))
theorem SB.put {w : World} {g n : Nat} {h0 bl : Nat → Int} (s : SB w g h0 bl n) (h : Nat → Int) : SB (put8 w g h) g h bl n := by
  have c0 := s.ch 0 (by omega)
  have c1 := s.ch 1 (by omega)
  have c2 := s.ch 2 (by omega)
  have c3 := s.ch 3 (by omega)
  have c4 := s.ch 4 (by omega)
  have c5 := s.ch 5 (by omega)
  have c6 := s.ch 6 (by omega)
  have c7 := s.ch 7 (by omega)
  refine ⟨by simpa [World.setCell] using s.lt, fun j hj => ?_, fun j hj => ?_, ?_, fun o => by simp [go_sem, s.fr]⟩
  · rcases (by omega : j = 0 ∨ j = 1 ∨ j = 2 ∨ j = 3 ∨ j = 4 ∨ j = 5 ∨ j = 6 ∨ j = 7) with rfl | rfl | rfl | rfl | rfl | rfl | rfl | rfl
    · simp [go_sem, c0]
    · simp [go_sem, c1]
    · simp [go_sem, c2]
    · simp [go_sem, c3]
    · simp [go_sem, c4]
    · simp [go_sem, c5]
    · simp [go_sem, c6]
    · simp [go_sem, c7]
  · have cb := s.cb j hj
    simp [go_sem, cb]
    try omega
  · have cn := s.cn
    simp [go_sem, cn]
theorem Bar.put8 {g : Nat} {a w : World} (b : Bar g a w) (h : Nat → Int) : Bar g a (put8 w g h) := (((((((b.set 0 _).set 1 _).set 2 _).set 3 _).set 4 _).set 5 _).set 6 _).set 7 _
theorem Bar.cells {g : Nat} : ∀ (vs : List Value) (o : Nat) {a w : World}, Bar g a w → Bar g a (w.setCells g o vs)
  | [], _, _, _, h => h
  | v :: r, o, a, w, h => by rw [World.setCells]; exact Bar.cells r (o + 1) (h.set o v)
theorem SB.there8 {w : World} {g n : Nat} {h bl : Nat → Int} (s : SB w g h bl n) (V : Nat → Int) : w.there g 0 (wordV 8 V).toArray.size := by
  rw [List.size_toArray, wordV_length]
  intro j hj
  rw [Nat.zero_add]
  exact ⟨by rw [s.ch j hj]; rfl, s.fr j⟩
theorem SB.put2 {w : World} {g n : Nat} {h0 bl : Nat → Int} (s : SB w g h0 bl n) (h : Nat → Int) : SB (w.setCells g 0 (wordV 8 h)) g h bl n := by
  have ht : w.there g 0 (wordV 8 h).length := by have := s.there8 h; rwa [List.size_toArray] at this
  refine ⟨by rw [setCells_size]; exact s.lt, fun j hj => ?_, fun j hj => ?_, ?_, fun x => by rw [World.frozen?_setCells]; exact s.fr x⟩
  · rw [cell_setCells ht j (s.ch j hj), wordV_length, if_pos (by omega), Nat.sub_zero, List.getD_eq_getElem?_getD, wordV_get hj]; rfl
  · rw [cell_setCells ht (8 + j) (s.cb j hj), wordV_length, if_neg (by omega)]
  · rw [cell_setCells ht 72 s.cn, wordV_length, if_neg (by omega)]
theorem SB.range8 {w : World} {g n : Nat} {h bl : Nat → Int} (s : SB w g h bl n) : w.rangeAt g 0 (wordV 8 h) := by
  intro j v hv
  have hj : j < 8 := by have := (List.getElem?_eq_some_iff.1 hv).1; rwa [wordV_length] at this
  rw [wordV_get hj] at hv
  injection hv with hv
  subst hv
  rw [Nat.zero_add]
  exact s.ch j hj
theorem SB.rangeB {w : World} {g n : Nat} {h bl : Nat → Int} (s : SB w g h bl n) : w.rangeAt g 8 (rowV 64 bl) := by
  intro j v hv
  have hj : j < 64 := by have := (List.getElem?_eq_some_iff.1 hv).1; rwa [rowV_length] at this
  rw [rowV_get hj] at hv
  injection hv with hv
  subst hv
  exact s.cb j hj
/-- A State as a value. -/
def sbV (h bl : Nat → Int) (n : Nat) : List Value := wordV 8 h ++ (rowV 64 bl ++ [.int .u64 n])
theorem sbV_length (h bl : Nat → Int) (n : Nat) : (sbV h bl n).length = 73 := by unfold sbV; simp [wordV_length, rowV_length]
theorem SB.get {w : World} {g n : Nat} {h bl : Nat → Int} (s : SB w g h bl n) (j : Nat) (hj : j < 73) : w.cell? ⟨g, j, none⟩ = (sbV h bl n)[j]? := by
  unfold sbV
  by_cases e : j < 8
  · rw [List.getElem?_append_left (by rw [wordV_length]; exact e), wordV_get e]; exact s.ch j e
  · rw [List.getElem?_append_right (by rw [wordV_length]; omega), wordV_length]
    by_cases e2 : j < 72
    · rw [List.getElem?_append_left (by rw [rowV_length]; omega), rowV_get (by omega)]
      have := s.cb (j - 8) (by omega)
      rwa [show 8 + (j - 8) = j by omega] at this
    · obtain rfl : j = 72 := by omega
      rw [List.getElem?_append_right (by rw [rowV_length]; omega), rowV_length]
      exact s.cn
theorem SB.range {w : World} {g n : Nat} {h bl : Nat → Int} (s : SB w g h bl n) : w.rangeAt g 0 (sbV h bl n) := by
  intro j v hv
  have hj : j < 73 := by have := (List.getElem?_eq_some_iff.1 hv).1; rwa [sbV_length] at this
  rw [Nat.zero_add, s.get j hj, hv]
theorem SB.mk' {w : World} {g n : Nat} {h bl : Nat → Int} (hl : g < w.heap.size) (hr : w.rangeAt g 0 (sbV h bl n)) (hf : ∀ o, w.frozen? ⟨g, o, none⟩ = false) : SB w g h bl n := by
  have hc : ∀ j v, (sbV h bl n)[j]? = some v → w.cell? ⟨g, j, none⟩ = some v := fun j v hv => by have := hr j v hv; rwa [Nat.zero_add] at this
  refine ⟨hl, fun j hj => hc _ _ ?_, fun j hj => hc _ _ ?_, hc _ _ ?_, hf⟩
  · unfold sbV; rw [List.getElem?_append_left (by rw [wordV_length]; exact hj), wordV_get hj]
  · unfold sbV; rw [List.getElem?_append_right (by rw [wordV_length]; omega), wordV_length, List.getElem?_append_left (by rw [rowV_length]; omega), show 8 + j - 8 = j by omega, rowV_get hj]
  · unfold sbV; rw [List.getElem?_append_right (by rw [wordV_length]; omega), wordV_length, List.getElem?_append_right (by rw [rowV_length]; omega), rowV_length]; rfl
theorem sbV_one (h bl : Nat → Int) (n : Nat) : ∀ v ∈ sbV h bl n, v.oneCell' = true := by
  intro v hv
  unfold sbV at hv
  rcases List.mem_append.1 hv with hv | hv
  · exact wordV_one _ _ v hv
  · rcases List.mem_append.1 hv with hv | hv
    · exact rowV_one _ _ v hv
    · simp at hv; subst hv; rfl
theorem info_sb (h bl : Nat → Int) (n : Nat) : (Tryd.prog.info? 95).map (·.size) = some (sbV h bl n).length := by rw [sbV_length]; kernel_rfl
theorem info_sbA (h bl : Nat → Int) (n : Nat) : (Tryd.prog.info? 95).map (·.size) = some (sbV h bl n).toArray.size := by rw [List.size_toArray, sbV_length]; kernel_rfl

/-- The eight behind all whole blocks of some bytes. -/
def eight (l : List Int) : St8 := blocks8 start8 l (l.length / 64)
theorem blocks_app (s : St8) (l p : List Int) : ∀ n, 64 * n ≤ l.length → blocks8 s (l ++ p) n = blocks8 s l n
  | 0, _ => rfl
  | n + 1, h => by
    show step8 (blocks8 s (l ++ p) n) (((l ++ p).drop (64 * n)).take 64) = step8 (blocks8 s l n) ((l.drop (64 * n)).take 64)
    rw [blocks_app s l p n (by omega), List.drop_append_of_le_length (by omega), List.take_append_of_le_length (by simp; omega)]
theorem start_U : U8 start8 := by constructor <;> (unfold U32 start8; simp only []; omega)
theorem blocks_U (l : List Int) : ∀ n, U8 (blocks8 start8 l n)
  | 0 => start_U
  | _ + 1 => U8.grow _ _
theorem eight_U (l : List Int) : U8 (eight l) := blocks_U l _
theorem eight_part (l p : List Int) (h : l.length % 64 + p.length < 64) : eight (l ++ p) = eight l := by
  unfold eight
  rw [List.length_append, show (l.length + p.length) / 64 = l.length / 64 by omega]
  exact blocks_app _ _ _ _ (by omega)
theorem eight_full (l p : List Int) (h : l.length % 64 + p.length = 64) : eight (l ++ p) = step8 (eight l) (blk64 (l ++ p) (l.length / 64)) := by
  unfold eight
  rw [List.length_append, show (l.length + p.length) / 64 = l.length / 64 + 1 by omega]
  show step8 (blocks8 start8 (l ++ p) (l.length / 64)) _ = _
  rw [blocks_app _ _ _ _ (by omega)]
  rfl
/-- What a State has when these bytes were added. -/
structure SS (w : World) (g : Nat) (l : List Int) (bl : Nat → Int) : Prop where
  sb : SB w g (s8 (eight l)) bl l.length
  rest : ∀ j, j < l.length % 64 → bl j = l.getD (64 * (l.length / 64) + j) 0
theorem rest_lay {l p : List Int} {bl : Nat → Int} (h : ∀ j, j < l.length % 64 → bl j = l.getD (64 * (l.length / 64) + j) 0) (j : Nat) (hj : j < l.length % 64 + p.length) :
    layB bl p (l.length % 64) j = (l ++ p).getD (64 * (l.length / 64) + j) 0 := by
  unfold layB
  by_cases e : l.length % 64 ≤ j ∧ j < l.length % 64 + p.length
  · rw [if_pos e, List.getD_eq_getElem?_getD, List.getD_eq_getElem?_getD, List.getElem?_append_right (by omega), show 64 * (l.length / 64) + j - l.length = j - l.length % 64 by omega]
  · rw [if_neg e, h j (by omega), List.getD_eq_getElem?_getD, List.getD_eq_getElem?_getD, List.getElem?_append_left (by omega)]
end Go.Proofs.YtjkhboejhcbdpaaDoor
