/- The walk of PackReads over this translation. -/
import Derived.Test.YtnhgadnmppjdeaaPackOwn
import Derived.Test.YtnhgadnmppjdeaaRef4Read
import Derived.Test.YtnhgadnmppjdeaaHashEq
import Derived.Test.YtnhgadnmppjdeaaClassy
import Derived.Deep.DeepCutAuto
import Derived.Deep.CutBlock
namespace Go.Proofs.Ytnhgadnmppjdeaa
open Go.RowKit Go.Lib
theorem eqHash0 (f : Nat → Int) (w : World) : (Op.equalIn 10000 33 (.agg (rowV 32 f).toArray) (.agg #[.int .u8 0, .int .u8 0, .int .u8 0, .int .u8 0, .int .u8 0, .int .u8 0, .int .u8 0, .int .u8 0, .int .u8 0, .int .u8 0, .int .u8 0, .int .u8 0, .int .u8 0, .int .u8 0, .int .u8 0, .int .u8 0, .int .u8 0, .int .u8 0, .int .u8 0, .int .u8 0, .int .u8 0, .int .u8 0, .int .u8 0, .int .u8 0, .int .u8 0, .int .u8 0, .int .u8 0, .int .u8 0, .int .u8 0, .int .u8 0, .int .u8 0, .int .u8 0])).run Try.prog w = .ok (sameH f (fun _ => 0)) w := eqHash f (fun _ => 0) w
attribute [local go_sem] setCell_drewN alloc_drewN eqInt eqHash eqHash0

theorem few_allR {n : Nat} {t : Nat → Itm} (hf : fewB n t = true) : n ≤ 30 ∧ ∀ i, i < n → (t i).bl.length ≤ 100 := by unfold fewB at hf; exact of_decide_eq_true hf
/-- So many bytes are taken, by the document. -/
def Tk (l : List Int) (e : Int) (n : Nat) (l1 : List Int) (e1 : Int) (tl : List Int) : Prop :=
  (e = 0 ∧ n ≤ l.length ∧ l1 = l.drop n ∧ e1 = 0 ∧ tl = l.take n) ∨ ((e ≠ 0 ∨ l.length < n) ∧ l1 = [] ∧ e1 = errOf e ∧ tl = [])
def szs : Nat → Nat
  | 0 => 1
  | 1 => 4
  | 2 => 8
  | _ => 32
/-- An item's error. -/
def e15 (T : Itm) : Int := bits .and .i64 T.e 15
/-- What the document's reader has behind an ask, and what it tells. -/
def Ph (T : Itm) (q : Nat) (l : List Int) (e : Int) (l1 : List Int) (e1 : Int) (tl : List Int) (ok : Bool) : Prop :=
  (q < 5 ∧ Tk l e (szs q) l1 e1 tl ∧ ok = decide (e = 0 ∧ szs q ≤ l.length)) ∨ (q = 5 ∧ Tk l e T.n.toNat l1 e1 tl ∧ ok = false) ∨
    (q = 6 ∧ tl = [] ∧ ok = false ∧ ((e15 T = 0 ∨ e ≠ 0) ∧ l1 = l ∧ e1 = e ∨ (e15 T ≠ 0 ∧ e = 0) ∧ l1 = [] ∧ e1 = e15 T))
theorem Tk.eq {l : List Int} {e : Int} {n : Nat} {l1 : List Int} {e1 : Int} {tl : List Int} (h : Tk l e n l1 e1 tl) (he : e ≠ 0 → l = []) : (n ≤ l.length ∧ l1 = l.drop n ∧ e1 = e ∧ tl = l.take n) ∨ (l.length < n ∧ l1 = [] ∧ e1 = errOf e ∧ tl = []) := by
  rcases h with ⟨rfl, h1, h2, h3, h4⟩ | ⟨h1, h2, h3, h4⟩
  · exact .inl ⟨h1, h2, h3, h4⟩
  · by_cases hn : n ≤ l.length
    · have hne : e ≠ 0 := by rcases h1 with h | h; exact h; omega
      have hl := he hne
      subst hl
      refine .inl ⟨hn, by rw [h2]; simp, by rw [h3]; exact if_neg hne, by rw [h4]; simp⟩
    · exact .inr ⟨by omega, h2, h3, h4⟩
theorem Tk.err {l : List Int} {e : Int} {n : Nat} {l1 : List Int} {e1 : Int} {tl : List Int} (h : Tk l e n l1 e1 tl) : l1.length ≤ l.length ∧ (Byt l → Byt l1) := by
  rcases h with ⟨_, _, rfl, _⟩ | ⟨_, rfl, _⟩
  · exact ⟨by simp, fun h => h.drop n⟩
  · exact ⟨by simp, fun _ x hx => by simp at hx⟩
theorem Tk.read8 {w w' : World} {g n : Nat} {rb : Option Nat} {l l1 tl : List Int} {e e1 v : Int} (h : Tk l e n l1 e1 tl) (hr : Read8 w w' g n rb l e v) (he : e ≠ 0 → l = []) : v = bval tl ∧ Rdr w' g rb l1 e1 ∧ Bar g w w' := by
  rcases h.eq he with ⟨h1, rfl, rfl, rfl⟩ | ⟨h1, rfl, rfl, rfl⟩ <;> rcases hr.1 with ⟨g1, rfl, g3⟩ | ⟨g1, rfl, g3⟩
  · exact ⟨rfl, g3, hr.2⟩
  · omega
  · omega
  · exact ⟨rfl, g3, hr.2⟩
theorem Tk.readB {w w' : World} {g n : Nat} {rb : Option Nat} {l l1 tl l' : List Int} {e e1 : Int} (h : Tk l e n l1 e1 tl) (hr : ReadB w w' g n rb l e l') (he : e ≠ 0 → l = []) : l' = tl ∧ Rdr w' g rb l1 e1 ∧ Bar g w w' := by
  rcases h.eq he with ⟨h1, rfl, rfl, rfl⟩ | ⟨h1, rfl, rfl, rfl⟩ <;> rcases hr.1 with ⟨g1, rfl, g3⟩ | ⟨g1, rfl, g3⟩
  · exact ⟨rfl, g3, hr.2⟩
  · omega
  · omega
  · exact ⟨rfl, g3, hr.2⟩
theorem Tk.tl {l : List Int} {e : Int} {n : Nat} {l1 : List Int} {e1 : Int} {tl : List Int} (h : Tk l e n l1 e1 tl) : tl.length ≤ n ∧ (Byt l → Byt tl) := by
  rcases h with ⟨_, _, _, _, rfl⟩ | ⟨_, _, _, rfl⟩
  · exact ⟨by simp; omega, fun h => h.take n⟩
  · exact ⟨by simp, fun _ x hx => by simp at hx⟩
theorem take_map {l : List Int} (h : 32 ≤ l.length) : l.take 32 = (List.range 32).map (fun j => l.getD j 0) := by
  apply List.ext_getElem?
  intro j
  by_cases hj : j < 32
  · rw [List.getElem?_take, if_pos hj]
    simp [hj, show j < l.length by omega]
  · rw [List.getElem?_eq_none (by simp; omega), List.getElem?_eq_none (by simp; omega)]
theorem take_b32 {l : List Int} (hb : Byt l) (h : 32 ≤ l.length) : l.take 32 = b32 (rv (fun j => l.getD j 0) 32) ∧ In (rv (fun j => l.getD j 0) 32) := by
  refine ⟨?_, rv_in hb.get⟩
  rw [take_map h]
  unfold b32
  apply List.map_congr_left
  intro j hj
  rw [bt_rv hb.get j (List.mem_range.1 hj)]
theorem Tk.readI {w w' : World} {g : Nat} {rb : Option Nat} {l l1 tl : List Int} {e e1 v : Int} (h : Tk l e 32 l1 e1 tl) (hr : ReadI w w' g rb l e v) (he : e ≠ 0 → l = []) (hby : Byt l) :
    ((e = 0 ∧ 32 ≤ l.length → tl = b32 v ∧ In v) ∧ (¬ (e = 0 ∧ 32 ≤ l.length) → v = 0)) ∧ Rdr w' g rb l1 e1 ∧ Bar g w w' := by
  rcases h.eq he with ⟨h1, rfl, rfl, rfl⟩ | ⟨h1, rfl, rfl, rfl⟩ <;> rcases hr.1 with ⟨g1, rfl, g3⟩ | ⟨g1, rfl, g3⟩
  · refine ⟨⟨fun _ => take_b32 hby g1, fun hn => ?_⟩, g3, hr.2⟩
    have hne : e1 ≠ 0 := fun e0 => hn ⟨e0, g1⟩
    rw [he hne] at g1; simp at g1
  · omega
  · omega
  · exact ⟨⟨fun hh => by have := hh.2; omega, fun _ => rfl⟩, g3, hr.2⟩
theorem Tk.readH {w w' : World} {g : Nat} {rb : Option Nat} {l l1 tl : List Int} {e e1 : Int} {f : Nat → Int} (h : Tk l e 32 l1 e1 tl) (hr : ReadH w w' g rb l e f) (he : e ≠ 0 → l = []) :
    ((e = 0 ∧ 32 ≤ l.length → tl = (List.range 32).map f) ∧ (¬ (e = 0 ∧ 32 ≤ l.length) → f = fun _ => 0)) ∧ Rdr w' g rb l1 e1 ∧ Bar g w w' := by
  rcases h.eq he with ⟨h1, rfl, rfl, rfl⟩ | ⟨h1, rfl, rfl, rfl⟩ <;> rcases hr.1 with ⟨g1, rfl, g3⟩ | ⟨g1, rfl, g3⟩
  · refine ⟨⟨fun _ => ?_, fun hn => ?_⟩, g3, hr.2⟩
    · rw [take_map g1]
      apply List.map_congr_left
      intro j hj
      simp [List.mem_range.1 hj]
    · have hne : e1 ≠ 0 := fun e0 => hn ⟨e0, g1⟩
      rw [he hne] at g1; simp at g1
  · omega
  · omega
  · exact ⟨⟨fun hh => by have := hh.2; omega, fun _ => rfl⟩, g3, hr.2⟩
theorem Ph.tk {T : Itm} {q : Nat} {l l1 tl : List Int} {e e1 : Int} {ok : Bool} (h : Ph T q l e l1 e1 tl ok) (hq : q < 5) : Tk l e (szs q) l1 e1 tl ∧ ok = decide (e = 0 ∧ szs q ≤ l.length) := by
  rcases h with ⟨_, h⟩ | ⟨h, _⟩ | ⟨h, _⟩
  · exact h
  · omega
  · omega
theorem Ph.raw {T : Itm} {l l1 tl : List Int} {e e1 : Int} {ok : Bool} (h : Ph T 5 l e l1 e1 tl ok) : Tk l e T.n.toNat l1 e1 tl := by
  rcases h with ⟨h, _⟩ | ⟨_, h, _⟩ | ⟨h, _⟩
  · omega
  · exact h
  · omega
theorem Ph.fail {T : Itm} {l l1 tl : List Int} {e e1 : Int} {ok : Bool} (h : Ph T 6 l e l1 e1 tl ok) : (e15 T = 0 ∨ e ≠ 0) ∧ l1 = l ∧ e1 = e ∨ (e15 T ≠ 0 ∧ e = 0) ∧ l1 = [] ∧ e1 = e15 T := by
  rcases h with ⟨h, _⟩ | ⟨h, _⟩ | ⟨_, _, _, h⟩
  · omega
  · omega
  · exact h
theorem Ph.small {T : Itm} {q : Nat} {l l1 tl : List Int} {e e1 : Int} {ok : Bool} (h : Ph T q l e l1 e1 tl ok) : l1.length ≤ l.length ∧ (Byt l → Byt l1) := by
  rcases h with ⟨_, h, _⟩ | ⟨_, h, _⟩ | ⟨_, _, _, ⟨_, rfl, _⟩ | ⟨_, rfl, _⟩⟩
  · exact h.err
  · exact h.err
  · exact ⟨Nat.le_refl _, fun h => h⟩
  · exact ⟨by simp, fun _ x hx => by simp at hx⟩
/-- What stands in the middle of a round: the reader, the document's, the sizes, the item. -/
structure QSt (w0 w : World) (g : Nat) (rb : Option Nat) (l : List Int) (e : Int) (gw gs : Nat) (l1 : List Int) (e1 : Int) : Prop where
  rdr : Rdr w g rb l e
  wb : VRow w gw [.string (strOfNums l1), .int .i64 e1]
  sz : VRow w gs [.int .i64 1, .int .i64 4, .int .i64 8, .int .i64 32, .int .i64 32]
  gwg : gw ≠ g
  gsg : gs ≠ g
  gws : gs ≠ gw
  rbw : rb ≠ some gw
  low : w0.heap.size ≤ g
  loww : w0.heap.size ≤ gw
  below : Below w0.heap.size w0 w
theorem QSt.after {w0 w w' : World} {g gw gs : Nat} {rb : Option Nat} {l l1 : List Int} {e e1 : Int} (h : QSt w0 w g rb l e gw gs l1 e1) (hb : Below w.heap.size w w') : QSt w0 w' g rb l e gw gs l1 e1 :=
  ⟨h.rdr.after hb rfl, h.wb.after hb rfl, h.sz.after hb rfl, h.gwg, h.gsg, h.gws, h.rbw, h.low, h.loww, bOn h.below hb⟩
theorem QSt.read {w0 w w' : World} {g gw gs : Nat} {rb : Option Nat} {l l' l1 : List Int} {e e' e1 : Int} (h : QSt w0 w g rb l e gw gs l1 e1) (hr : Rdr w' g rb l' e') (hb : Bar g w w') : QSt w0 w' g rb l' e' gw gs l1 e1 :=
  ⟨hr, h.wb.of hb.size (hb.block gw h.wb.lt h.gwg), h.sz.of hb.size (hb.block gs h.sz.lt h.gsg), h.gwg, h.gsg, h.gws, h.rbw, h.low, h.loww, hb.below h.below h.low h.below.size⟩
/-- The document's reader is another one. -/
abbrev put2 (w : World) (g : Nat) (s : ByteArray) (e : Int) : World := (w.setCell ⟨g, 0, none⟩ (.string s)).setCell ⟨g, 1, none⟩ (.int .i64 e)
theorem VRow.put2 {w : World} {g : Nat} {a b : Value} (h : VRow w g [a, b]) (s : ByteArray) (e : Int) : VRow (put2 w g s e) g [.string s, .int .i64 e] := by
  have c0 := h.cell 0 rfl
  have c1 := h.cell 1 rfl
  refine ⟨by simpa [World.setCell] using h.lt, fun j v hv => ?_, fun o => by simp [go_sem, h.fr]⟩
  have hj : j = 0 ∨ j = 1 := by have := (List.getElem?_eq_some_iff.1 hv).1; simp at this; omega
  rcases hj with rfl | rfl
  · simp at hv; subst hv; simp [go_sem, c0]
  · simp at hv; subst hv; simp [go_sem, c1]
theorem QSt.put2 {w0 w : World} {g gw gs : Nat} {rb : Option Nat} {l l1 : List Int} {e e1 : Int} (h : QSt w0 w g rb l e gw gs l1 e1) (l2 : List Int) (e2 : Int) : QSt w0 (put2 w gw (strOfNums l2) e2) g rb l e gw gs l2 e2 :=
  ⟨(h.rdr.other (p := ⟨gw, 0, none⟩) h.gwg.symm h.rbw _).other (p := ⟨gw, 1, none⟩) h.gwg.symm h.rbw _, h.wb.put2 _ _, h.sz.of (by simp [World.setCell]) (by rw [Below.heap_setCell _ _ _ _ h.gws, Below.heap_setCell _ _ _ _ h.gws]), h.gwg, h.gsg, h.gws, h.rbw, h.low, h.loww, (h.below.setCell (p := ⟨gw, 0, none⟩) h.loww _).setCell (p := ⟨gw, 1, none⟩) h.loww _⟩
set_option maxRecDepth 100000 in
set_option maxHeartbeats 4000000 in
theorem packReads_long (bo : Option Addr) (bc : Nat) (lb : List Int) (ao : Option Addr) (n cap : Nat) (t : Nat → Itm) (w : World) (h : Its w ao n cap t) (hf : fewB n t = false ∨ 500 < lb.length) :
    Calls Try.prog 4 #[.slice bo lb.length bc, .slice ao n cap] w fun e w' => e = .returned (.bool true) ∧ Below w.heap.size w w' := by
  have H := hide h
  clear h
  cases hfe : fewB n t
  · clear hf
    go_enter Try.func4, Try.ntmps4
    go_wp2_with fail
    refine (lives4_any _).mono ?_
    rintro e w1 ⟨rfl, hb1⟩
    have B := hide hb1
    clear hb1
    go_wp2_with fail
    refine (few_any (H.out.below B.out)).mono ?_
    rintro e w2 ⟨rfl, hb2⟩
    replace B := hide (bOn B.out hb2)
    clear hb2
    go_wp2_with fail
    refine (lives4_any _).mono ?_
    rintro e w3 ⟨rfl, hb3⟩
    replace B := hide (bOn B.out hb3)
    clear hb3
    go_wp2
    go_ret
    exact ⟨rfl, B.out⟩
  · have hl : (500 : Int) < (lb.length : Int) := by
      rcases hf with h | h
      · rw [hfe] at h; simp at h
      · omega
    clear hf
    go_enter Try.func4, Try.ntmps4
    go_wp2_with fail
    refine (lives4_any _).mono ?_
    rintro e w1 ⟨rfl, hb1⟩
    have B := hide hb1
    clear hb1
    go_wp2_with fail
    refine (few_any (H.out.below B.out)).mono ?_
    rintro e w2 ⟨rfl, hb2⟩
    replace B := hide (bOn B.out hb2)
    clear hb2
    go_wp2_with fail
    refine (lives4_any _).mono ?_
    rintro e w3 ⟨rfl, hb3⟩
    replace B := hide (bOn B.out hb3)
    clear hb3
    go_wp2
    go_ret
    exact ⟨rfl, B.out⟩
theorem VRow.lit (w : World) (vs : Array Value) (t : TypeId) {g : Nat} (e : w.heap.size = g) : VRow (w.alloc (.cells vs t)) g vs.toList := by
  subst e
  refine ⟨by simp, fun j v hv => ?_, fun o => World.frozen?_alloc_at _ _ _ _ rfl⟩
  rw [Nat.zero_add, World.cell?_alloc_at _ _ _ _ rfl]
  simpa using hv
theorem VRow.bar {w w' : World} {g g' : Nat} {vs : List Value} (h : VRow w g vs) (hb : Bar g' w w') (hne : g ≠ g') : VRow w' g vs := h.of hb.size (hb.block g h.lt hne)
theorem VRow.put2' {w : World} {g g' : Nat} {vs : List Value} (h : VRow w g vs) (hne : g ≠ g') (s : ByteArray) (e : Int) : VRow (Proofs.Ytnhgadnmppjdeaa.put2 w g' s e) g vs :=
  h.of (by simp [World.setCell]) (by rw [Below.heap_setCell _ _ _ _ hne, Below.heap_setCell _ _ _ _ hne])
theorem sz_cell {w : World} {gs : Nat} (h : VRow w gs [.int .i64 1, .int .i64 4, .int .i64 8, .int .i64 32, .int .i64 32]) {q : Nat} (hq : q < 5) : w.cell? ⟨gs, q, none⟩ = some (.int .i64 (szs q : Nat)) := by
  rcases (by omega : q = 0 ∨ q = 1 ∨ q = 2 ∨ q = 3 ∨ q = 4) with rfl | rfl | rfl | rfl | rfl
  · exact h.cell 0 rfl
  · exact h.cell 1 rfl
  · exact h.cell 2 rfl
  · exact h.cell 3 rfl
  · exact h.cell 4 rfl
set_option maxRecDepth 100000 in
set_option maxHeartbeats 16000000 in
theorem packReads_part (bo : Option Addr) (bc : Nat) (lb : List Int) (ao : Option Addr) (n cap : Nat) (t : Nat → Itm) (w : World) (h : Its w ao n cap t) (hf : fewB n t = true) (hl : lb.length ≤ 500) (ha : At w bo lb) (hbo : bo = none → bc = 0) (hby : Byt lb) :
    Calls Try.prog 4 #[.slice bo lb.length bc, .slice ao n cap] w fun e w' => e = .returned (.bool true) ∧ Below w.heap.size w w' := by
  have H := hide h
  have HFEW := hide (few_allR hf)
  have hn30 : n ≤ 30 := HFEW.out.1
  have HA := hide ha; have HBO := hide hbo; have HBY := hide hby
  clear h ha hbo hby
  have hli : ¬ (500 : Int) < (lb.length : Int) := by omega
  go_enter Try.func4, Try.ntmps4
  go_wp2_with fail
  refine (lives4_any _).mono ?_
  rintro e w1 ⟨rfl, hb1⟩
  have B := hide hb1
  clear hb1
  go_wp2_with fail
  refine (few_any (H.out.below B.out)).mono ?_
  rintro e w2 ⟨rfl, hb2⟩
  replace B := hide (bOn B.out hb2)
  clear hb2
  go_wp2_with (at_builtin; refine wpList_app rfl _ _ rfl (.slice (some ⟨w2.heap.size, 0, none⟩) 0 0) [] lb _ _ _ rfl rfl rfl (Bs.empty w2) ((HA.out.below B.out).below (bAl (bMe w2))) HBO.out (by simp; omega) (by simp) ?_)
  intro v' w5 hb5 hg5 hn5
  clear hf
  obtain ⟨oo, oc, rfl, -, -, -⟩ := hb5.cell
  have hb45 : Below w2.heap.size w2 w5 := (bAl (bMe w2)).grown hg5 (by simp) (fun k e => by simp [Value.ownBlock] at e; omega)
  have OWN := hide hb5
  have HG : Hid (w.heap.size ≤ w2.heap.size) := B.out.size
  have HS5 : Hid (w.heap.size ≤ w5.heap.size) := Nat.le_trans B.out.size hb45.size
  replace B := hide (bOn B.out hb45)
  clear hb5 hg5 hn5 hb45
  generalize w2.heap.size = B4 at *
  have HOA := hide OWN.out.at
  have HROW : Hid (∀ k, (Value.slice oo lb.length oc).ownBlock = some k → k < w5.heap.size) := fun k hk => (OWN.out.lt k hk).2
  go_wp2_with fail
  refine (rof_any oo oc lb HOA.out.1 HOA.out.2 (by omega)).mono ?_
  rintro e w6 ⟨g, rb, rfl, hr, hlow, hrb, hb⟩
  have R := hide hr; have HLOW := hide hlow; have HRB := hide hrb
  replace B := hide (bOn B.out hb); replace OWN := hide (OWN.out.below hb)
  clear hr hlow hrb hb HOA
  go_wp2
  go_loopg [39] lb.length (fun gk t39 wr => ∃ (j : Nat) (lo : List Int), gk + j = lb.length ∧ t39 = .int .i64 j ∧ lo.length = lb.length ∧ Bs wr B4 (.slice oo lo.length oc) lo ∧ Rdr wr g rb lb 0 ∧ Below w.heap.size w wr)
  case atStart => exact ⟨0, lb, by omega, rfl, rfl, OWN.out, R.out, B.out⟩
  case round =>
    clear OWN R B
    obtain ⟨j, lo, hj, rfl, hlo, hown, hr, hb⟩ := hrel
    have OWN := hide hown; have R := hide hr; have B := hide hb; have HLO := hide hlo; have HJ := hide hj
    clear hown hr hb hlo hj
    by_cases hlt : j < lb.length
    · have hji : (j : Int) < (lb.length : Int) := by omega
      obtain ⟨go, rfl, hB, hcell, hfz⟩ := OWN.out.some (by have := HLO.out; omega)
      have hc := hcell j (by have := HLO.out; omega)
      have hfz1 := hfz j
      have HBG := hide hB
      clear hcell hfz hB
      go_wp2
      go_roundg (lb.length - j - 1)
      case measure => have := HJ.out; omega
      case rel => exact ⟨j + 1, lo.set j _, by have := HJ.out; omega, by go_num, by rw [List.length_set]; exact HLO.out, OWN.out.set j _, R.out.other (p := ⟨go, j, none⟩) (by have h1 := HROW.out go rfl; have h2 := HLOW.out; simp only []; omega) (fun e => by have h1 := HROW.out go rfl; have h2 := HRB.out go e; omega) _, B.out.setCell (by have := HBG.out; have := HG.out; simp only []; omega) _⟩
    · have hcv := (HA.out.below B.out).str bc
      go_wp2
      clear hcv
      have HR := R.out.lt
      have Q : Hid (QSt w ((wr.alloc (.cells #[.string (strOfNums lb), .int .i64 0] 49)).alloc (.cells #[.int .i64 1, .int .i64 4, .int .i64 8, .int .i64 32, .int .i64 32] 3)) g rb lb 0 wr.heap.size (wr.heap.size + 1) lb 0) :=
        ⟨(R.out.past _).past _, (VRow.lit wr #[.string (strOfNums lb), .int .i64 0] _ rfl).past _, VRow.lit _ #[.int .i64 1, .int .i64 4, .int .i64 8, .int .i64 32, .int .i64 32] _ (by simp), by have := HR.1; omega, by have := HR.1; omega, by omega, fun e => by have := HR.2.1 _ e; omega, by have := HLOW.out; have := HS5.out; omega, B.out.size, bAl (bAl B.out)⟩
      clear HR R B OWN HLO HJ
      generalize (wr.alloc (.cells #[.string (strOfNums lb), .int .i64 0] 49)).alloc (.cells #[.int .i64 1, .int .i64 4, .int .i64 8, .int .i64 32, .int .i64 32] 3) = w7 at *
      generalize hgs : wr.heap.size + 1 = gs at *
      clear hgs
      generalize wr.heap.size = gw at *
      go_loopg [55] n (fun gk t55 wr => ∃ (k : Nat) (l : List Int) (e : Int), gk + k = n ∧ t55 = .int .i64 k ∧ Byt l ∧ l.length ≤ 500 ∧ QSt w wr g rb l e gw gs l e)
      case atStart => exact ⟨0, lb, 0, by omega, rfl, HBY.out, hl, Q.out⟩
      case round =>
        clear Q
        obtain ⟨k, l, e, hk, rfl, hbl2, hl5, hq⟩ := hrel
        have Q := hide hq; have HBL := hide hbl2; have HK := hide hk
        clear hq hbl2 hk
        by_cases hltk : k < n
        · have hki : (k : Int) < (n : Int) := by omega
          obtain ⟨b, off, rfl, hbl, hc⟩ := H.out.here (by omega)
          have R0 : Hid (wr.rangeAt b (off + k * 41) (itmV (t k))) := fun j v hv => (Q.out.below.cell (p := ⟨b, off + k * 41 + j, none⟩) hbl).trans (hc k hltk j v hv)
          clear hc
          go_wp2_with (refine wpList_load_mid rfl 35 _ rfl b (off + k * 41) rfl (itmV (t k)) _ R0.out Try.underlying35 rfl (info_itm _) ?_)
          rw [storing_new wr _ 35 (itmV (t k)) (by rw [itmV_length]; rfl) (itmV_one _)]
          obtain ⟨V, B2⟩ := copied wr (t k)
          have HV := hide V
          have OK := hide (H.out.ok k)
          have HX1 : Hid (wr.heap.size ≠ g) := fun e => by have := Q.out.rdr.lt.1; omega
          have HX2 : Hid (wr.heap.size ≠ gw) := fun e => by have := Q.out.wb.lt; omega
          replace Q := hide (Q.out.after B2)
          clear V B2 R0
          generalize (wr.alloc (.cells #[.int .u8 0, .int .u64 0, .int .u64 0, .int .u64 0, .int .u64 0, .int .u64 0, .int .u8 0, .int .u8 0, .int .u8 0, .int .u8 0, .int .u8 0, .int .u8 0, .int .u8 0, .int .u8 0, .int .u8 0, .int .u8 0, .int .u8 0, .int .u8 0, .int .u8 0, .int .u8 0, .int .u8 0, .int .u8 0, .int .u8 0, .int .u8 0, .int .u8 0, .int .u8 0, .int .u8 0, .int .u8 0, .int .u8 0, .int .u8 0, .int .u8 0, .int .u8 0, .int .u8 0, .int .u8 0, .int .u8 0, .int .u8 0, .int .u8 0, .int .u8 0, .slice none 0 0, .int .i64 0, .int .i64 0] 35)).setCells wr.heap.size 0 (itmV (t k)) = w8 at *
          generalize wr.heap.size = gx at *
          generalize t k = T at *
          have c0 := HV.out.cell 0 rfl
          obtain ⟨k0, k1⟩ := OK.out.kd
          obtain ⟨q, hq⟩ : ∃ q : Nat, T.kd % 7 = (q : Int) := ⟨(T.kd % 7).toNat, by omega⟩
          have hq7 : q < 7 := by omega
          go_upto_block 4 with fail
          clear c0 hq
          go_cut [13, 14] (fun s13 s14 wc => ∃ (l1 : List Int) (e1 : Int) (tl : List Int) (ok : Bool), s13 = .string (strOfNums tl) ∧ s14 = .bool ok ∧ Ph T q l e l1 e1 tl ok ∧ QSt w wc g rb l e gw gs l1 e1 ∧ VRow wc gx (itmV T))
          case first =>
            by_cases hq5 : q < 5
            · as_aux_lemma =>
                have hq5i : (q : Int) < 5 := by omega
                have d0 := Q.out.wb.cell 0 rfl
                have d1 := Q.out.wb.cell 1 rfl
                have df := Q.out.wb.fr
                have ds := sz_cell Q.out.sz hq5
                by_cases hok : e = 0 ∧ szs q ≤ l.length
                · obtain ⟨rfl, hle⟩ := hok
                  go_wp2
                  go_region_with (go_at_call 18; refine (take4_ok l (szs q) _ hle).mono ?_; rintro r w9 ⟨rfl, hb9⟩; have Q9 := hide (Q.out.after (bOn (bMe w8).drew hb9)); have V9 := hide (HV.out.after (bOn (bMe w8).drew hb9) rfl); clear hb9; have d0 := Q9.out.wb.cell 0 rfl; have d1 := Q9.out.wb.cell 1 rfl; have df := Q9.out.wb.fr)
                  all_goals
                    go_wp2
                    go_meet
                    case rel => exact ⟨l.drop (szs q), 0, l.take (szs q), true, rfl, rfl, .inl ⟨hq5, .inl ⟨rfl, hle, rfl, rfl, rfl⟩, (decide_eq_true ⟨rfl, hle⟩).symm⟩, Q9.out.put2 _ _, V9.out.put2' HX2.out _ _⟩
                · have HNO : Hid (e ≠ 0 ∨ l.length < szs q) := by
                    by_cases e0 : e = 0
                    · exact .inr (by have : ¬ szs q ≤ l.length := fun h => hok ⟨e0, h⟩; omega)
                    · exact .inl e0
                  have HOK := hide hok
                  clear hok
                  go_wp2
                  go_region_with (go_at_call 18; refine (take4_no l e (szs q) _ HNO.out).mono ?_; rintro r w9 ⟨rfl, hb9⟩; have Q9 := hide (Q.out.after (bOn (bMe w8).drew hb9)); have V9 := hide (HV.out.after (bOn (bMe w8).drew hb9) rfl); clear hb9; have d0 := Q9.out.wb.cell 0 rfl; have d1 := Q9.out.wb.cell 1 rfl; have df := Q9.out.wb.fr)
                  all_goals
                    go_wp2
                    go_meet
                    case rel => exact ⟨[], errOf e, [], false, rfl, rfl, .inl ⟨hq5, .inr ⟨HNO.out, rfl, rfl, rfl⟩, (decide_eq_false HOK.out).symm⟩, Q9.out.put2 _ _, V9.out.put2' HX2.out _ _⟩
            · as_aux_lemma =>
                have hq5i : ¬ (q : Int) < 5 := by omega
                rcases (by omega : q = 5 ∨ q = 6) with rfl | rfl
                · have d0 := Q.out.wb.cell 0 rfl
                  have d1 := Q.out.wb.cell 1 rfl
                  have df := Q.out.wb.fr
                  have c39 := HV.out.cell 39 (itmV_tail T 1)
                  rcases Int.lt_or_le 0 T.n with hpos | hneg
                  rotate_left
                  · have HT : Hid (T.n.toNat = 0) := by show _ = _; omega
                    by_cases e0 : e = 0
                    · subst e0
                      go_wp2_with fail
                      refine (take4_ok l 0 _ (Nat.zero_le _)).mono ?_
                      rintro r w9 ⟨rfl, hb9⟩
                      have Q9 := hide (Q.out.after hb9); have V9 := hide (HV.out.after hb9 rfl)
                      clear hb9 d0 d1 df
                      have d0 := Q9.out.wb.cell 0 rfl
                      have d1 := Q9.out.wb.cell 1 rfl
                      have df := Q9.out.wb.fr
                      go_wp2
                      go_meet
                      case rel => exact ⟨l.drop 0, 0, l.take 0, false, rfl, rfl, .inr (.inl ⟨rfl, by rw [HT.out]; exact .inl ⟨rfl, Nat.zero_le _, rfl, rfl, rfl⟩, rfl⟩), Q9.out.put2 _ _, V9.out.put2' HX2.out _ _⟩
                    · have HNO := hide e0
                      clear e0
                      go_wp2_with fail
                      refine (take4_no l e 0 _ (.inl HNO.out)).mono ?_
                      rintro r w9 ⟨rfl, hb9⟩
                      have Q9 := hide (Q.out.after hb9); have V9 := hide (HV.out.after hb9 rfl)
                      clear hb9 d0 d1 df
                      have d0 := Q9.out.wb.cell 0 rfl
                      have d1 := Q9.out.wb.cell 1 rfl
                      have df := Q9.out.wb.fr
                      go_wp2
                      go_meet
                      case rel => exact ⟨[], errOf e, [], false, rfl, rfl, .inr (.inl ⟨rfl, by rw [HT.out]; exact .inr ⟨.inl HNO.out, rfl, rfl, rfl⟩, rfl⟩), Q9.out.put2 _ _, V9.out.put2' HX2.out _ _⟩
                  · obtain ⟨m, hm⟩ := Int.eq_ofNat_of_zero_le (Int.le_of_lt hpos)
                    have HT : Hid (T.n.toNat = m) := by show _ = _; omega
                    by_cases hok : e = 0 ∧ m ≤ l.length
                    · obtain ⟨rfl, hle⟩ := hok
                      go_wp2_with fail
                      refine (take4_ok l m _ hle).mono ?_
                      rintro r w9 ⟨rfl, hb9⟩
                      have Q9 := hide (Q.out.after hb9); have V9 := hide (HV.out.after hb9 rfl)
                      clear hb9 d0 d1 df
                      have d0 := Q9.out.wb.cell 0 rfl
                      have d1 := Q9.out.wb.cell 1 rfl
                      have df := Q9.out.wb.fr
                      go_wp2
                      go_meet
                      case rel => exact ⟨l.drop m, 0, l.take m, false, rfl, rfl, .inr (.inl ⟨rfl, by rw [HT.out]; exact .inl ⟨rfl, hle, rfl, rfl, rfl⟩, rfl⟩), Q9.out.put2 _ _, V9.out.put2' HX2.out _ _⟩
                    · have HNO : Hid (e ≠ 0 ∨ l.length < m) := by
                        by_cases e0 : e = 0
                        · exact .inr (by have : ¬ m ≤ l.length := fun h => hok ⟨e0, h⟩; omega)
                        · exact .inl e0
                      clear hok
                      go_wp2_with fail
                      refine (take4_no l e m _ HNO.out).mono ?_
                      rintro r w9 ⟨rfl, hb9⟩
                      have Q9 := hide (Q.out.after hb9); have V9 := hide (HV.out.after hb9 rfl)
                      clear hb9 d0 d1 df
                      have d0 := Q9.out.wb.cell 0 rfl
                      have d1 := Q9.out.wb.cell 1 rfl
                      have df := Q9.out.wb.fr
                      go_wp2
                      go_meet
                      case rel => exact ⟨[], errOf e, [], false, rfl, rfl, .inr (.inl ⟨rfl, by rw [HT.out]; exact .inr ⟨HNO.out, rfl, rfl, rfl⟩, rfl⟩), Q9.out.put2 _ _, V9.out.put2' HX2.out _ _⟩
                · have d0 := Q.out.wb.cell 0 rfl
                  have d1 := Q.out.wb.cell 1 rfl
                  have df := Q.out.wb.fr
                  have c40 := HV.out.cell 40 (itmV_tail T 2)
                  have he15 : bits .and .i64 T.e 15 = e15 T := rfl
                  by_cases hy : e15 T = 0
                  · have hyb : (e15 T != 0) = false := by simp [hy]
                    go_wp2
                    go_meet
                    case rel => exact ⟨l, e, [], false, rfl, rfl, .inr (.inr ⟨rfl, rfl, rfl, .inl ⟨.inl hy, rfl, rfl⟩⟩), Q.out, HV.out⟩
                  · have hyb : (e15 T != 0) = true := by simpa using hy
                    by_cases e0 : e = 0
                    · subst e0
                      go_wp2
                      go_meet
                      case rel => exact ⟨[], e15 T, [], false, rfl, rfl, .inr (.inr ⟨rfl, rfl, rfl, .inr ⟨⟨hy, rfl⟩, rfl, rfl⟩⟩), Q.out.put2 [] (e15 T), HV.out.put2' HX2.out _ _⟩
                    · have e0b : (e == 0) = false := by simpa using e0
                      go_wp2
                      go_meet
                      case rel => exact ⟨l, e, [], false, rfl, rfl, .inr (.inr ⟨rfl, rfl, rfl, .inl ⟨.inr e0, rfl, rfl⟩⟩), Q.out, HV.out⟩
          case rest =>
            clear HV Q
            obtain ⟨l1, e1, tl, ok, rfl, rfl, hph, hq2, hv2⟩ := hcut
            have Q := hide hq2; have HV := hide hv2; have PH := hide hph
            clear hq2 hv2 hph
            have HERR : Hid (e ≠ 0 → l = []) := Q.out.rdr.lt.2.2.2
            go_upto_block 5 with fail
            go_cut [12, 13, 14, 15] (fun _ _ _ s15 wc => s15 = .bool true ∧ QSt w wc g rb l1 e1 gw gs l1 e1)
            case first =>
              rcases (by omega : q = 0 ∨ q = 1 ∨ q = 2 ∨ q = 3 ∨ q = 4 ∨ q = 5 ∨ q = 6) with rfl | rfl | rfl | rfl | rfl | rfl | rfl
              · as_aux_lemma =>
                  have htk := (PH.out.tk (by omega)).1
                  have TK := hide htk; have TL := hide htk.tl
                  clear htk
                  go_wp2_with fail
                  refine (ru8_any Q.out.rdr HBL.out).mono ?_
                  rintro r w9 ⟨v, rfl, hr⟩
                  obtain ⟨v0, v1⟩ := hr.bd HBL.out
                  obtain ⟨rfl, r1, r2⟩ := TK.out.read8 hr HERR.out
                  have hwv : IntKind.u64.wrap (bval tl) = bval tl := by rw [IntKind.wrap_u64]; simp at v1; omega
                  replace Q := hide (Q.out.read r1 r2)
                  clear hr r1 r2 v1
                  go_wp2_with fail
                  refine (value_any tl _ (TL.out.2 HBL.out) (Nat.le_trans TL.out.1 (by decide))).mono ?_
                  rintro r w10 ⟨rfl, rfl⟩
                  go_wp2
                  go_meet
                  case rel => exact ⟨rfl, Q.out⟩
              · as_aux_lemma =>
                  have htk := (PH.out.tk (by omega)).1
                  have TK := hide htk; have TL := hide htk.tl
                  clear htk
                  go_wp2_with fail
                  refine (ru32_any Q.out.rdr HBL.out).mono ?_
                  rintro r w9 ⟨v, rfl, hr⟩
                  obtain ⟨v0, v1⟩ := hr.bd HBL.out
                  obtain ⟨rfl, r1, r2⟩ := TK.out.read8 hr HERR.out
                  have hwv : IntKind.u64.wrap (bval tl) = bval tl := by rw [IntKind.wrap_u64]; simp at v1; omega
                  replace Q := hide (Q.out.read r1 r2)
                  clear hr r1 r2 v1
                  go_wp2_with fail
                  refine (value_any tl _ (TL.out.2 HBL.out) (Nat.le_trans TL.out.1 (by decide))).mono ?_
                  rintro r w10 ⟨rfl, rfl⟩
                  go_wp2
                  go_meet
                  case rel => exact ⟨rfl, Q.out⟩
              · as_aux_lemma =>
                  have htk := (PH.out.tk (by omega)).1
                  have TK := hide htk; have TL := hide htk.tl
                  clear htk
                  go_wp2_with fail
                  refine (ru64_any Q.out.rdr HBL.out).mono ?_
                  rintro r w9 ⟨v, rfl, hr⟩
                  obtain ⟨v0, v1⟩ := hr.bd HBL.out
                  obtain ⟨rfl, r1, r2⟩ := TK.out.read8 hr HERR.out
                  have hwv : IntKind.u64.wrap (bval tl) = bval tl := by rw [IntKind.wrap_u64]; simp at v1; omega
                  replace Q := hide (Q.out.read r1 r2)
                  clear hr r1 r2 v1
                  go_wp2_with fail
                  refine (value_any tl _ (TL.out.2 HBL.out) (Nat.le_trans TL.out.1 (by decide))).mono ?_
                  rintro r w10 ⟨rfl, rfl⟩
                  go_wp2
                  go_meet
                  case rel => exact ⟨rfl, Q.out⟩
              · as_aux_lemma =>
                  obtain ⟨htk, hok⟩ := PH.out.tk (by omega)
                  have TK : Hid (Tk l e 32 l1 e1 tl) := htk
                  have HOK : Hid (ok = decide (e = 0 ∧ 32 ≤ l.length)) := hok
                  clear htk hok
                  go_wp2_with fail
                  refine (rint_any Q.out.rdr HBL.out).mono ?_
                  rintro r w9 ⟨v, rfl, hr⟩
                  obtain ⟨⟨hy, hn⟩, r1, r2⟩ := TK.out.readI hr HERR.out HBL.out
                  have HY := hide hy; have HN := hide hn
                  replace Q := hide (Q.out.read r1 r2)
                  clear hr r1 r2 hy hn
                  cases ok with
                  | true =>
                    have hh : e = 0 ∧ 32 ≤ l.length := of_decide_eq_true HOK.out.symm
                    obtain ⟨ht, hin⟩ := HY.out hh
                    subst ht
                    have HIN := hide hin
                    clear hin hh
                    go_wp2
                    have P := hide (Own.new w9 (lm v 0) (lm v 1) (lm v 2) (lm v 3) 31)
                    replace Q := hide (Q.out.after (bAl (o := (.cells #[.int .u64 (lm v 0), .int .u64 (lm v 1), .int .u64 (lm v 2), .int .u64 (lm v 3)] 31)) (bMe w9)))
                    have si : same4 (lm v 0) (lm v 1) (lm v 2) (lm v 3) (lm v 0) (lm v 1) (lm v 2) (lm v 3) = true := by simp [same4]
                    generalize hgb : w9.heap.size = gb at *
                    generalize w9.alloc (.cells #[.int .u64 (lm v 0), .int .u64 (lm v 1), .int .u64 (lm v 2), .int .u64 (lm v 3)] 31) = w10 at *
                    clear hgb
                    obtain ⟨C, hC⟩ : ∃ C : World → Prop, C = fun w' => QSt w w' g rb l1 e1 gw gs l1 e1 ∧ Own w' gb (lm v 0) (lm v 1) (lm v 2) (lm v 3) := ⟨_, rfl⟩
                    have HC := hide hC
                    have HC0 : Hid (C w10.drew) := by rw [hC]; exact ⟨Q.out.after (bMe w10).drew, P.out.after (bMe w10).drew rfl⟩
                    clear hC Q P
                    refine wp_region_class C (by kernel_rfl) (by kernel_rfl) HC0.out ?_
                    repeat (go_big_quiet_step (first
                      | (intro _; rfl)
                      | (intro hx; go_at_call 24; refine (intOf_any v _ HIN.out).mono ?_; rintro r w11 ⟨rfl, hb⟩; refine ⟨rfl, ?_⟩; rw [HC.out] at hx ⊢; exact ⟨hx.1.after hb, hx.2.after hb rfl⟩)
                      | (intro hx; rw [HC.out] at hx; have c0 := hx.2.c0; have c1 := hx.2.c1; have c2 := hx.2.c2; have c3 := hx.2.c3; simp only [c0, c1, c2, c3, Result.andThen]; exact ⟨trivial, rfl⟩)))
                    refine wpQuiet_nil ?_
                    intro w11 hw11
                    rw [HC.out] at hw11
                    have Q := hide hw11.1
                    clear hw11
                    go_wp2
                    go_meet
                    case rel => exact ⟨rfl, Q.out⟩
                  | false =>
                    have hv0 := HN.out (of_decide_eq_false HOK.out.symm)
                    subst hv0
                    go_wp2
                    have P := hide (Own.new w9 (lm 0 0) (lm 0 1) (lm 0 2) (lm 0 3) 31)
                    replace Q := hide (Q.out.after (bAl (o := (.cells #[.int .u64 (lm 0 0), .int .u64 (lm 0 1), .int .u64 (lm 0 2), .int .u64 (lm 0 3)] 31)) (bMe w9)))
                    have si : same4 (lm 0 0) (lm 0 1) (lm 0 2) (lm 0 3) 0 0 0 0 = true := by simp [same4, lm_zero]
                    generalize hgb : w9.heap.size = gb at *
                    generalize w9.alloc (.cells #[.int .u64 (lm 0 0), .int .u64 (lm 0 1), .int .u64 (lm 0 2), .int .u64 (lm 0 3)] 31) = w10 at *
                    clear hgb
                    obtain ⟨p5, p0, p1, p2, p3, pf⟩ := P.out
                    go_quiet (fail)
                    go_wp2
                    go_meet
                    case rel => exact ⟨rfl, Q.out.after (bDn (bMe w10))⟩
              · as_aux_lemma =>
                  obtain ⟨htk, hok⟩ := PH.out.tk (by omega)
                  have TK : Hid (Tk l e 32 l1 e1 tl) := htk
                  have HOK : Hid (ok = decide (e = 0 ∧ 32 ≤ l.length)) := hok
                  clear htk hok
                  go_wp2_with fail
                  refine (rhash_any Q.out.rdr).mono ?_
                  rintro r w9 ⟨f, rfl, hr⟩
                  obtain ⟨⟨hy, hn⟩, r1, r2⟩ := TK.out.readH hr HERR.out
                  have HY := hide hy; have HN := hide hn
                  replace Q := hide (Q.out.read r1 r2)
                  clear hr r1 r2 hy hn
                  go_wp2_with fail
                  have R0 : BRow (w9.alloc (.cells #[.int .u8 0, .int .u8 0, .int .u8 0, .int .u8 0, .int .u8 0, .int .u8 0, .int .u8 0, .int .u8 0, .int .u8 0, .int .u8 0, .int .u8 0, .int .u8 0, .int .u8 0, .int .u8 0, .int .u8 0, .int .u8 0, .int .u8 0, .int .u8 0, .int .u8 0, .int .u8 0, .int .u8 0, .int .u8 0, .int .u8 0, .int .u8 0, .int .u8 0, .int .u8 0, .int .u8 0, .int .u8 0, .int .u8 0, .int .u8 0, .int .u8 0, .int .u8 0] 33)) w9.heap.size 32 (fun _ => 0) := BRow.new w9 32 33 (g := w9.heap.size) rfl
                  rw [R0.storing (P := Try.prog) f]
                  have RH := hide (R0.stored f)
                  replace Q := hide (Q.out.after (setCells_below (bAl (o := (.cells #[.int .u8 0, .int .u8 0, .int .u8 0, .int .u8 0, .int .u8 0, .int .u8 0, .int .u8 0, .int .u8 0, .int .u8 0, .int .u8 0, .int .u8 0, .int .u8 0, .int .u8 0, .int .u8 0, .int .u8 0, .int .u8 0, .int .u8 0, .int .u8 0, .int .u8 0, .int .u8 0, .int .u8 0, .int .u8 0, .int .u8 0, .int .u8 0, .int .u8 0, .int .u8 0, .int .u8 0, .int .u8 0, .int .u8 0, .int .u8 0, .int .u8 0, .int .u8 0] 33)) (bMe w9)) (Nat.le_refl _) (rowV 32 f) 0))
                  clear R0
                  generalize (w9.alloc (.cells #[.int .u8 0, .int .u8 0, .int .u8 0, .int .u8 0, .int .u8 0, .int .u8 0, .int .u8 0, .int .u8 0, .int .u8 0, .int .u8 0, .int .u8 0, .int .u8 0, .int .u8 0, .int .u8 0, .int .u8 0, .int .u8 0, .int .u8 0, .int .u8 0, .int .u8 0, .int .u8 0, .int .u8 0, .int .u8 0, .int .u8 0, .int .u8 0, .int .u8 0, .int .u8 0, .int .u8 0, .int .u8 0, .int .u8 0, .int .u8 0, .int .u8 0, .int .u8 0] 33)).setCells w9.heap.size 0 (rowV 32 f) = w10 at *
                  generalize w9.heap.size = gh at *
                  cases ok with
                  | true =>
                    have ht := HY.out (of_decide_eq_true HOK.out.symm)
                    subst ht
                    have hcv := (row_at RH.out).str 32
                    rw [List.length_map, List.length_range] at hcv
                    go_wp2
                    go_meet
                    case rel => exact ⟨rfl, Q.out⟩
                  | false =>
                    have hf0 := HN.out (of_decide_eq_false HOK.out.symm)
                    subst hf0
                    have hse := sameH_self (fun _ => 0)
                    go_wp2_with (refine wpList_load_want 33 _ rfl gh 0 rfl (rowV 32 (fun _ => 0)) _ RH.out.range Try.underlying33 rfl (info_hsh _) rfl ?_)
                    go_meet
                    case rel => exact ⟨rfl, Q.out⟩
              · as_aux_lemma =>
                  have TK := hide PH.out.raw
                  have c39 := HV.out.cell 39 (itmV_tail T 1)
                  obtain ⟨n0, n1⟩ := OK.out.n
                  have N0 := hide n0; have N1 := hide n1
                  clear n0 n1
                  go_wp2_with fail
                  refine (rraw_any Q.out.rdr T.n N0.out N1.out (by omega)).mono ?_
                  rintro r w9 ⟨v, l', B', rfl, hv, _, hr⟩
                  obtain ⟨rfl, r1, r2⟩ := TK.out.readB hr HERR.out
                  obtain ⟨so, sc, rfl, _, _, ha⟩ := hv.cell
                  have hcv := ha.str sc
                  replace Q := hide (Q.out.read r1 r2)
                  clear hr r1 r2 hv ha
                  go_wp2
                  go_meet
                  case rel => exact ⟨rfl, Q.out⟩
              · as_aux_lemma =>
                  have c40 := HV.out.cell 40 (itmV_tail T 2)
                  have he15 : bits .and .i64 T.e 15 = e15 T := rfl
                  go_wp2_with fail
                  refine (fail_any Q.out.rdr (e15 T)).mono ?_
                  rintro r w9 ⟨rfl, hr, hb⟩
                  have R9 : Hid (Rdr w9 g rb l1 e1 ∧ Bar g wc w9) := by
                    refine ⟨?_, hb⟩
                    unfold Fell at hr
                    rcases PH.out.fail with ⟨hc, rfl, rfl⟩ | ⟨⟨hc1, hc2⟩, rfl, rfl⟩
                    · rw [if_pos hc] at hr; exact hr
                    · rw [if_neg (by rintro (h | h); exact hc1 h; exact h hc2)] at hr; exact hr
                  replace Q := hide (Q.out.read R9.out.1 R9.out.2)
                  clear hr hb R9
                  go_wp2
                  go_meet
                  case rel => exact ⟨rfl, Q.out⟩
            case rest =>
              as_aux_lemma =>
                clear Q
                obtain ⟨rfl, hq3⟩ := hcut
                have Q := hide hq3
                clear hq3
                have HSM := hide PH.out.small
                have d0 := Q.out.wb.cell 0 rfl
                have d1 := Q.out.wb.cell 1 rfl
                have hs1 : (strOfNums l1).size = l1.length := strOfNums_size l1
                have HE1 : Hid (e1 ≠ 0 → l1 = []) := Q.out.rdr.lt.2.2.2
                by_cases hl1 : l1 = []
                · subst hl1
                  have hne : (strOfNums []).toList.isEmpty = true := by rw [Go.ByteArray.toList_eq]; rfl
                  have hen : endOf [] e1 = e1 := rfl
                  go_wp2
                  all_goals
                    go_quiet (first | (go_at_call 28; exact Calls.quiet_of_same (left_any (Q.out.rdr.after (bDn (bMe _)) rfl))) | (go_at_call 29; exact Calls.quiet_of_same (err_any (Q.out.rdr.after (bDn (bMe _)) rfl))) | (go_at_call 30; exact Calls.quiet_of_same (end_any (Q.out.rdr.after (bDn (bMe _)) rfl))))
                    go_wp2
                    go_roundg (n - k - 1)
                    case measure => have := HK.out; omega
                    case rel => exact ⟨k + 1, [], e1, by omega, by go_num, HSM.out.2 HBL.out, by simp, Q.out.after (bDn (bMe _))⟩
                · have e10 : e1 = 0 := by
                    by_cases h0 : e1 = 0
                    · exact h0
                    · exact absurd (HE1.out h0) hl1
                  subst e10
                  have hlp : 0 < l1.length := List.length_pos_iff.2 hl1
                  have hne : (strOfNums l1).toList.isEmpty = false := by
                    rw [Go.ByteArray.toList_eq, strOfNums_data]
                    cases l1 with
                    | nil => exact absurd rfl hl1
                    | cons x r => rfl
                  have hen : endOf l1 0 = 5 := if_pos hlp
                  have hl2 : l1.length ≤ 500 := by have := HSM.out.1; omega
                  go_wp2
                  all_goals
                    go_quiet (first | (go_at_call 28; exact Calls.quiet_of_same (left_any (Q.out.rdr.after (bDn (bMe _)) rfl))) | (go_at_call 29; exact Calls.quiet_of_same (err_any (Q.out.rdr.after (bDn (bMe _)) rfl))) | (go_at_call 30; exact Calls.quiet_of_same (end_any (Q.out.rdr.after (bDn (bMe _)) rfl))))
                    go_wp2
                    go_roundg (n - k - 1)
                    case measure => have := HK.out; omega
                    case rel => exact ⟨k + 1, l1, 0, by omega, by go_num, HSM.out.2 HBL.out, hl2, Q.out.after (bDn (bMe _))⟩
        · go_wp2
          go_ret
          exact ⟨rfl, Q.out.below⟩
theorem packReads_walk (bo : Option Addr) (bc : Nat) (lb : List Int) (ao : Option Addr) (n cap : Nat) (t : Nat → Itm) (w : World) (hb : lb.length ≤ bc ∧ bc ≤ maxLen ∧ (bo = none → bc = 0) ∧ At w bo lb ∧ Byt lb) (h : Its w ao n cap t) :
    Calls Try.prog 4 #[.slice bo lb.length bc, .slice ao n cap] w fun e w' => e = .returned (.bool true) ∧ Below w.heap.size w w' := by
  by_cases hl : lb.length ≤ 500
  · cases hf : fewB n t
    · exact packReads_long bo bc lb ao n cap t w h (.inl hf)
    · exact packReads_part bo bc lb ao n cap t w h hf hl hb.2.2.2.1 hb.2.2.1 hb.2.2.2.2
  · exact packReads_long bo bc lb ao n cap t w h (.inr (by omega))
end Go.Proofs.Ytnhgadnmppjdeaa
