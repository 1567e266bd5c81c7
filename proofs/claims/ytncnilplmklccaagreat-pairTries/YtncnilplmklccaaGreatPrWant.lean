/- What a try should leave, by the document's tables: sponsionlaw14.want (gen-prwant.py). -/
import Derived.Test.YtncnilplmklccaaGreatRef14
import Derived.Test.YtncnilplmklccaaGreatPrTriesDo
namespace Go.Proofs.YtncnilplmklccaaGreat
set_option linter.unusedSimpArgs false
set_option linter.unusedVariables false
open Go.RowKit Go.Lib
attribute [local go_sem] setCell_drewN alloc_drewN

/-- Both rows are good. -/
def GoodL (L : Nat → Kvs) : Prop := ∀ s, s < 2 → Good (L s) ∧ ∀ t, In (sup (L s) t)
theorem In.le {a : Int} (h0 : 0 ≤ a) {b : Int} (hb : In b) (h : a ≤ b) : In a := ⟨h0, by have := hb.2; omega⟩
theorem mintL_good {L : Kvs} (g : Good L) (hI : ∀ t, In (sup L t)) {t p N : Int} (ht : 0 ≤ t) (hp : 0 ≤ p) (hN : In N) : Good (mintL L t p N) ∧ ∀ s, In (sup (mintL L t p N) s) := by
  by_cases h : mintE L t p N = 0
  · obtain ⟨hc, hs⟩ := mintE_ok h
    have hk := chk_kin ht hc (List.mem_singleton.2 rfl) hp
    refine ⟨by rw [mintL, h, if_pos rfl]; exact g.put hk _, fun s => ?_⟩
    rw [(sup_mint g ht hp hN h).2 s]
    split
    · rename_i e; rw [← e]; exact hs
    · exact hI s
  · rw [mintL, if_neg h]; exact ⟨g, hI⟩
theorem burnL_good {L : Kvs} (g : Good L) (hI : ∀ t, In (sup L t)) {t p N : Int} (ht : 0 ≤ t) (hp : 0 ≤ p) (hN : In N) : Good (burnL L t p N) ∧ ∀ s, In (sup (burnL L t p N) s) := by
  by_cases h : burnE L t p N = 0
  · obtain ⟨hc, hs⟩ := burnE_ok h
    have hk := chk_kin ht hc (List.mem_singleton.2 rfl) hp
    refine ⟨by rw [burnL, h, if_pos rfl]; exact g.put hk _, fun s => ?_⟩
    have hle := bal_le_sup L hk
    rw [(sup_burn g ht hp hN h).2 s]
    split
    · rename_i e
      subst e
      exact In.le (by simp only at hle; omega) (hI t) (by have := hN.1; omega)
    · exact hI s
  · rw [burnL, if_neg h]; exact ⟨g, hI⟩
theorem moveL_good {L : Kvs} (g : Good L) (hI : ∀ t, In (sup L t)) {t a b N : Int} (ht : 0 ≤ t) (ha : 0 ≤ a) (hb : 0 ≤ b) (hN : In N) : Good (moveL L t a b N) ∧ ∀ s, In (sup (moveL L t a b N) s) := by
  refine ⟨?_, fun s => by rw [sup_move g hI ht ha hb hN s]; exact hI s⟩
  by_cases h : moveE L t a b N = 0
  · obtain ⟨hc, hs⟩ := moveE_ok h
    have hk := chk_kin ht hc (p := a) (by simp) ha
    have hk2 := chk_kin ht hc (p := b) (by simp) hb
    rw [moveL, h, if_pos rfl]
    exact (g.put hk _).put hk2 _
  · rw [moveL, if_neg h]; exact g
theorem GoodL.did {L : Nat → Kvs} (h : GoodL L) {d : Dd} (hd : d.Ok) : GoodL (upS L d.sd (dL L d)) := fun s hs => by
  unfold upS
  by_cases e : s = d.sd
  · simp only [e, if_true]
    obtain ⟨g, hI⟩ := h d.sd d.sd_lt
    unfold dL
    split
    · exact mintL_good g hI hd.a.t.1 hd.a.f.1 hd.a.n
    · split
      · exact burnL_good g hI hd.a.t.1 hd.a.f.1 hd.a.n
      · exact moveL_good g hI hd.a.t.1 hd.a.f.1 hd.a.o.1 hd.a.n
  · simp only [e, if_false]
    exact h s hs
theorem pf_put (L : Nat → Kvs) (N : List Int) {s : Nat} (hs : s < 2) (M : Kvs) (j : Nat) (hj : j < 592) : pf (upS L s M) N j = if s * 288 ≤ j ∧ j < s * 288 + 288 then tl (tb M) (j - s * 288) else pf L N j := by
  unfold pf upS
  rcases (show s = 0 ∨ s = 1 by omega) with rfl | rfl
  · by_cases h1 : j < 288
    · have hc : (0 * 288 ≤ j ∧ j < 0 * 288 + 288) = True := by simp; omega
      simp only [h1, hc, if_true, Nat.zero_mul, Nat.sub_zero]
      rw [if_pos ⟨by omega, trivial⟩]
    · have hc : (0 * 288 ≤ j ∧ j < 0 * 288 + 288) = False := by simp; omega
      have h10 : (1 : Nat) = 0 ↔ False := by simp
      simp only [h1, hc, if_false, h10]
      rw [if_neg (show ¬ (0 * 288 ≤ j ∧ False) from fun h => h.2)]
  · have h01 : (0 : Nat) = 1 ↔ False := by simp
    by_cases h1 : j < 288
    · have hc : (1 * 288 ≤ j ∧ j < 1 * 288 + 288) = False := by simp; omega
      simp only [h1, hc, if_true, if_false, h01]
    · by_cases h2 : j < 576
      · have hc : (1 * 288 ≤ j ∧ j < 1 * 288 + 288) = True := by simp; omega
        simp only [h1, h2, hc, if_true, if_false, Nat.one_mul]
        rw [if_pos ⟨by omega, trivial⟩]
      · have hc : (1 * 288 ≤ j ∧ j < 1 * 288 + 288) = False := by simp; omega
        simp only [h1, h2, hc, if_false]
        rw [if_neg (show ¬ (1 * 288 ≤ j ∧ False) from fun h => h.2)]
theorem pf_set (L : Nat → Kvs) {N : List Int} (hN : N.length = 16) {f : Nat} (hf : f < 16) (y : Int) (j : Nat) (hj : j < 592) : pf L (N.set f y) j = if j = 576 + f then y else pf L N j := by
  unfold pf
  by_cases h1 : j < 288
  · rw [if_pos h1, if_pos h1, if_neg (by omega)]
  · by_cases h2 : j < 576
    · rw [if_neg h1, if_neg h1, if_pos h2, if_pos h2, if_neg (by omega)]
    · rw [if_neg h1, if_neg h1, if_neg h2, if_neg h2, List.getD_eq_getElem?_getD, List.getD_eq_getElem?_getD, List.getElem?_set]
      by_cases e : j = 576 + f
      · subst e
        rw [if_pos (by omega), if_pos (by omega), if_pos rfl]
        rfl
      · rw [if_neg (by omega), if_neg e]
/-- What stands while want goes on: the pair handed in, the try, the answer's box, the next pair. -/
structure WS (w0 w : World) (g : Nat) (L : Nat → Kvs) (N : List Int) (x : Stp) (ad : Option Addr) (cd : Nat) (LL : Nat → Kvs) : Prop where
  old : URow w g 592 (pf L N)
  st : VRow w (g + 1) (stV x ad cd)
  res : ∃ f, URow w (g + 2) 592 f
  nx : URow w (g + 3) 592 (pf LL N)
  be : Below w0.heap.size w0 w
theorem WS.after {w0 w w' : World} {g cd : Nat} {L LL : Nat → Kvs} {N : List Int} {x : Stp} {ad : Option Addr} (h : WS w0 w g L N x ad cd LL) (hb : Below w.heap.size w w') : WS w0 w' g L N x ad cd LL := by
  obtain ⟨o, s, ⟨f, r⟩, n, be⟩ := h
  exact ⟨o.after hb rfl, s.after hb rfl, ⟨f, r.after hb rfl⟩, n.after hb rfl, bOn be hb⟩
theorem WS.drew {w0 w : World} {g cd : Nat} {L LL : Nat → Kvs} {N : List Int} {x : Stp} {ad : Option Addr} (h : WS w0 w g L N x ad cd LL) : WS w0 w.drew g L N x ad cd LL := by
  obtain ⟨o, s, ⟨f, r⟩, n, be⟩ := h
  exact ⟨o.dn 1, s.of (Nat.le_refl _) rfl, ⟨f, r.dn 1⟩, n.dn 1, be.drew⟩
theorem WS.put {w0 w : World} {g cd : Nat} {L LL : Nat → Kvs} {N : List Int} {x : Stp} {ad : Option Addr} (h : WS w0 w g L N x ad cd LL) (hg : w0.heap.size ≤ g) {s : Nat} (hs : s < 2) (M : Kvs) : WS w0 (w.setCells (g + 3) (s * 288) (rowU 288 (tl (tb M)))) g L N x ad cd (upS LL s M) := by
  obtain ⟨o, t, ⟨f, r⟩, n, be⟩ := h
  have hb : ∀ k, k ≠ g + 3 → (w.setCells (g + 3) (s * 288) (rowU 288 (tl (tb M)))).heap[k]? = w.heap[k]? := fun k hk => setCells_block _ _ _ _ _ hk
  have hz : w.heap.size ≤ (w.setCells (g + 3) (s * 288) (rowU 288 (tl (tb M)))).heap.size := by rw [setCells_size]; exact Nat.le_refl _
  exact ⟨o.of hz (hb _ (by omega)), t.of hz (hb _ (by omega)), ⟨f, r.of hz (hb _ (by omega))⟩, n.putAt (s * 288) 288 (tl (tb M)) _ (by omega) (fun j hj => pf_put LL N hs M j hj), setCells_below be (by omega) _ _⟩
/-- The answer. -/
def WDone (w : World) (L : Nat → Kvs) (N : List Int) (x : Stp) (e : Ending) (w' : World) : Prop :=
  e = .returned (.tuple #[pv (sL L x) (sN L N x), .int .i64 (sE L x)]) ∧ Below w.heap.size w w'
theorem VRow.setO {w : World} {g q o : Nat} {us : List Value} (h : VRow w g us) (hne : g ≠ q) (vs : List Value) : VRow (w.setCells q o vs) g us := h.of (by rw [setCells_size]; exact Nat.le_refl _) (setCells_block _ _ _ _ _ hne)
theorem URow.setO {w : World} {g n q o : Nat} {f : Nat → Int} (h : URow w g n f) (hne : g ≠ q) (vs : List Value) : URow (w.setCells q o vs) g n f := h.of (by rw [setCells_size]; exact Nat.le_refl _) (setCells_block _ _ _ _ _ hne)
theorem VRow.numD {w : World} {g : Nat} {d : Dd} (h : VRow w g (ddV d)) : w.rangeAt g 5 [.int .u64 (lm d.a.n 0), .int .u64 (lm d.a.n 1), .int .u64 (lm d.a.n 2), .int .u64 (lm d.a.n 3)] := by
  intro j v hv
  have hj : j < 4 := (List.getElem?_eq_some_iff.1 hv).1
  exact h.cell (5 + j) (by rcases (show j = 0 ∨ j = 1 ∨ j = 2 ∨ j = 3 by omega) with rfl | rfl | rfl | rfl <;> exact hv)
theorem zero592 (w : World) : (zeroValue 37).run Tryz.prog w = .ok (.agg (Array.replicate 592 (.int .u64 0))) w := by kernel_rfl
set_option maxRecDepth 100000 in
set_option maxHeartbeats 8000000 in
theorem want_any {W w : World} {L : Nat → Kvs} {N : List Int} {x : Stp} {ad : Option Addr} {cd : Nat} (hW : Below W.heap.size W w) (hd : Dds W ad x.ds) (hx : x.Ok) (hL : GoodL L) (hN : N.length = 16) (hNb : ∀ y ∈ N, 0 ≤ y ∧ y ≤ 1000000) :
    Calls Tryz.prog 11 #[pv L N, .agg #[.int .u8 x.f, .int .u64 x.n, .slice ad x.ds.length cd, .int .i64 x.x]] w fun e w' => WDone w L N x e w' := by
  obtain ⟨g, hg⟩ : ∃ g, w.heap.size = g := ⟨_, rfl⟩
  obtain ⟨Z, hZ⟩ : ∃ Z : Array Value, Z = Array.replicate 592 (.int .u64 0) := ⟨_, rfl⟩
  have hz592 : ∀ w, (zeroValue 37).run Tryz.prog w = .ok (.agg Z) w := fun w => by rw [hZ]; exact zero592 w
  obtain ⟨w2, hw2⟩ : ∃ w2, ((w.alloc (.cells (rowU 592 (pf L N)).toArray 37)).alloc (.cells #[.int .u8 x.f, .int .u64 x.n, .slice ad x.ds.length cd, .int .i64 x.x] 40)).alloc (.cells Z 37) = w2 := ⟨_, rfl⟩
  have hb2 : Below w.heap.size w w2 := by rw [← hw2]; exact bAl (bAl (bAl (bMe w)))
  have O2 : URow w2 g 592 (pf L N) := by rw [← hw2]; exact ((URow.box w 592 (pf L N) _ hg).past _).past _
  have V2 : VRow w2 (g + 1) (stV x ad cd) := by rw [← hw2]; exact (VRow.box _ (stV x ad cd) _ (by simp [hg])).past _
  have R2 : URow w2 (g + 2) 592 (fun _ => 0) := by rw [← hw2, hZ]; exact URow.new _ 592 _ (by simp [hg])
  have hz2 : w2.heap.size = g + 3 := by rw [← hw2]; simp [hg]
  have hxf := hx.f
  obtain ⟨f, hf⟩ : ∃ f : Nat, x.f = (f : Int) := ⟨x.f.toNat, by omega⟩
  have hft : x.f.toNat = f := by omega
  have v0 : w2.cell? ⟨g + 1, 0, none⟩ = some (.int .u8 f) := by rw [← hf]; exact V2.cell 0 rfl
  have v1 := V2.cell 1 rfl
  have v2 := V2.cell 2 rfl
  have v3 := V2.cell 3 rfl
  have HO := hide O2
  have HV := hide V2
  have HR := hide R2
  have HB2 := hide hb2
  have HZ2 := hide hz2
  have HWs := hide hW
  have HD := hide hd
  rw [hf] at hw2
  rw [hf]
  have hZ2 := hide hZ
  clear O2 V2 R2 hb2 hd hW hZ hxf hz2
  obtain ⟨w3, hw3⟩ : ∃ w3, w2.setCells (g + 2) 0 (rowU 592 (pf L N)) = w3 := ⟨_, rfl⟩
  have R3 : Hid (URow w3 (g + 2) 592 (pf L N) ∧ Below w.heap.size w w3) := by rw [← hw3]; exact hide ⟨HR.out.stored _, setCells_below HB2.out (by rw [hg]; omega) _ _⟩
  by_cases h16 : 16 ≤ f
  · have eE : sE L x = 1 := by unfold sE; rw [if_pos (by omega)]
    have eL : sL L x = L := by unfold sL; rw [eE, if_neg (by omega)]
    have eN : sN L N x = N := by unfold sN; rw [eE, if_neg (by omega)]
    have h15 : (15 : Int) < (f : Int) := by omega
    unfold WDone
    rw [eE, eL, eN]
    go_enter Tryz.func11, Tryz.ntmps11
    go_wp2_with (first | (refine wpList_load_mid rfl 37 _ rfl g 0 rfl (rowU 592 (pf L N)) _ ?hr Tryz.underlying37 rfl (info_pv _) ?_; (case hr => exact HO.out.range)) | (refine wpList_store_mid rfl 37 _ _ rfl (g + 2) 0 (rowU 592 (pf L N)).toArray rfl rfl ?hr (info_pvA _) (rowU_oneA _ _) ?_; (case hr => exact HR.out.thereA _); try simp only [List.toList_toArray]; try rw [hw3]))
    refine bodyPost_ret (v := .tuple #[pv L N, .int .i64 1]) ?_ rfl ⟨rfl, R3.out.2⟩
    have hlv := run_loadVar_mid (P := Tryz.prog) _ _ _ _ _ _ R3.out.1.range Tryz.underlying37 rfl (info_pv _)
    exact results_two Tryz.results11 rfl rfl hlv
  · have h15 : (f : Int) ≤ 15 := by omega
    by_cases hn : x.n = 0
    · rw [hn] at hw2 v1 ⊢
      have HN0 := hide hn
      clear hn
      obtain ⟨gx, hgx⟩ : ∃ gx, w2.heap.size = gx := ⟨_, rfl⟩
      have hgx3 : gx = g + 3 := by rw [← hgx]; exact HZ2.out
      subst hgx3
      obtain ⟨w4, hw4⟩ : ∃ w4, w2.alloc (.cells Z 37) = w4 := ⟨_, rfl⟩
      obtain ⟨w5, hw5⟩ : ∃ w5, w4.setCells (g + 3) 0 (rowU 592 (pf L N)) = w5 := ⟨_, rfl⟩
      have R4 : Hid (URow w4 (g + 3) 592 (fun _ => 0) ∧ Below w2.heap.size w2 w4) := by rw [← hw4, hZ2.out]; exact hide ⟨URow.new w2 592 _ hgx, bAl (bMe w2)⟩
      have X5 : Hid (WS w w5 g L N x ad cd L) := by
        have hb : ∀ k, k ≠ g + 3 → w5.heap[k]? = w4.heap[k]? := fun k hk => by rw [← hw5]; exact setCells_block _ _ _ _ _ hk
        have hz : w4.heap.size ≤ w5.heap.size := by rw [← hw5, setCells_size]; exact Nat.le_refl _
        have h4 := R4.out.2
        exact hide ⟨(HO.out.after h4 rfl).of hz (hb _ (by omega)), (HV.out.after h4 rfl).of hz (hb _ (by omega)), ⟨_, (HR.out.after h4 rfl).of hz (hb _ (by omega))⟩, by rw [← hw5]; exact R4.out.1.stored _, by rw [← hw5]; exact setCells_below (bOn HB2.out h4) (by rw [hg]; omega) _ _⟩
      have HG : Hid (w.heap.size ≤ g) := Nat.le_of_eq hg
      have v25 : w5.cell? ⟨g + 1, 2, none⟩ = some (.slice ad x.ds.length cd) := X5.out.st.cell 2 rfl
      go_enter Tryz.func11, Tryz.ntmps11
      go_wp2_with (first | (refine wpList_load_mid rfl 37 _ rfl g 0 rfl (rowU 592 (pf L N)) _ ?hr Tryz.underlying37 rfl (info_pv _) ?_; (case hr => exact HO.out.range)) | (refine wpList_store_mid rfl 37 _ _ rfl (g + 3) 0 (rowU 592 (pf L N)).toArray rfl rfl ?hr (info_pvA _) (rowU_oneA _ _) ?_; (case hr => exact R4.out.1.thereA _); try simp only [List.toList_toArray]; try rw [hw5]))
      clear R3 hw3 hw4 hw5 R4 HO HR HB2
      go_loopw [23] (fun q wr => ∃ (k : Nat) (LL : Nat → Kvs), k ≤ x.ds.length ∧ q = .int .i64 k ∧ WS w wr g L N x ad cd LL ∧ rD L (x.ds.take k) = (0, LL) ∧ GoodL LL) (fun q _ => (x.ds.length - intOf q).toNat)
      case atStart => exact ⟨0, L, by omega, rfl, X5.out, rfl, hL⟩
      case round =>
        obtain ⟨k, LL, hk, rfl, hws, hrd, hgl⟩ := hrel
        clear X5
        by_cases hlt : k < x.ds.length
        · have hlt1 : (k : Int) < x.ds.length := by omega
          have hwk : IntKind.i64.wrap ((k : Int) + 1) = (k : Int) + 1 := by have := hx.len; unfold maxLen at this; rw [IntKind.wrap_i64]; omega
          obtain ⟨d, hdk⟩ : ∃ d, x.ds[k]? = some d := ⟨x.ds[k], List.getElem?_eq_getElem hlt⟩
          have hdo := hx.ds d (List.mem_of_getElem? hdk)
          obtain ⟨b, off, rfl, hlb, hr⟩ := HD.out.got (bOn HWs.out hws.be) hdk
          have e0 : wr.cell? ⟨b, off + k * 9, none⟩ = some (.int .u8 d.s) := rangeAt_cell hr 0 rfl
          have e1 := rangeAt_cell hr 1 rfl
          have e2 := rangeAt_cell hr 2 rfl
          have e3 := rangeAt_cell hr 3 rfl
          have e4 := rangeAt_cell hr 4 rfl
          have e5 := rangeAt_cell hr 5 rfl
          have e6 := rangeAt_cell hr 6 rfl
          have e7 := rangeAt_cell hr 7 rfl
          have e8 := rangeAt_cell hr 8 rfl
          have htk : x.ds.take (k + 1) = x.ds.take k ++ [d] := by
            rw [List.take_succ_eq_append_getElem hlt]
            rw [List.getElem?_eq_getElem hlt] at hdk
            injection hdk with hdk
            rw [hdk]
          have hsd : d.s.tmod 2 = (d.sd : Int) := by rw [Int.tmod_eq_emod_of_nonneg hdo.s.1]; unfold Dd.sd; omega
          have hs := d.sd_lt
          have hs1 : (d.sd : Int) < 2 := by omega
          have RS : Hid (rD L (x.ds.take (k + 1)) = (dE LL d, upS LL d.sd (dL LL d))) := by
            have := rD_snoc (x.ds.take k) L d (by rw [hrd])
            rw [hrd] at this
            rw [htk]
            exact hide this
          have HGL := hide (hgl.did hdo)
          obtain ⟨g8, hg8⟩ : ∃ g8, wr.heap.size = g8 := ⟨_, rfl⟩
          obtain ⟨w6, hw6⟩ : ∃ w6, wr.alloc (.cells #[.int .u8 d.s, .int .u8 d.a.k, .int .u8 d.a.t, .int .u8 d.a.f, .int .u8 d.a.o, .int .u64 (lm d.a.n 0), .int .u64 (lm d.a.n 1), .int .u64 (lm d.a.n 2), .int .u64 (lm d.a.n 3)] 47) = w6 := ⟨_, rfl⟩
          have V8 : VRow w6 g8 (ddV d) := by rw [← hw6]; exact VRow.box _ (ddV d) _ hg8
          have f0 : w6.cell? ⟨g8, 0, none⟩ = some (.int .u8 d.s) := V8.cell 0 rfl
          have f1 := V8.cell 1 rfl
          have f2 := V8.cell 2 rfl
          have f3 := V8.cell 3 rfl
          have f4 := V8.cell 4 rfl
          have f5 := V8.cell 5 rfl
          have f6 := V8.cell 6 rfl
          have f7 := V8.cell 7 rfl
          have f8 := V8.cell 8 rfl
          have X : Hid (VRow w6.drew g8 (ddV d)) := hide (V8.of (Nat.le_refl _) rfl)
          have Y : Hid (WS w w6.drew g L N x (some ⟨b, off, none⟩) cd LL) := by rw [← hw6]; exact hide (hws.after (bAl (bMe wr))).drew
          have HG8 : Hid (g8 ≠ g + 3) := by have := hws.nx.lt; rw [← hg8]; exact hide (by omega)
          have u2 : wr.cell? ⟨g + 1, 2, none⟩ = some (.slice (some ⟨b, off, none⟩) x.ds.length cd) := hws.st.cell 2 rfl
          clear hws hrd hr V8 htk
          rcases (show d.a.k % 3 = 0 ∨ d.a.k % 3 = 1 ∨ d.a.k % 3 = 2 by omega) with hkk | hkk | hkk
          · have hkt : d.a.k.tmod 3 = 0 := by rw [Int.tmod_eq_emod_of_nonneg hdo.a.k.1]; exact hkk
            have hE : dE LL d = mintE (LL d.sd) d.a.t d.a.f d.a.n := by unfold dE; simp [hkk]
            have hLd : dL LL d = mintL (LL d.sd) d.a.t d.a.f d.a.n := by unfold dL; simp [hkk]
            have CR := hide (fun w => mint13_l (hgl d.sd d.sd_lt).1 (hgl d.sd d.sd_lt).2 w hdo.a.t hdo.a.f hdo.a.n)
            rw [← hE, ← hLd] at CR
            clear hE hLd
            generalize hsd2 : d.sd = s at *
            clear hsd2
            obtain ⟨E, hEe⟩ : ∃ E, dE LL d = E := ⟨_, rfl⟩
            rw [hEe] at CR RS
            clear hEe hkk
            go_wp2
            try rw [hw6]
            clear hw6
            refine wp_region_held_drew (S := fun w1 => VRow w1 g8 (ddV d)) (by kernel_rfl) X.out (fun _ => ?_)
            generalize w6.drew = w7 at *
            refine tk0 (v := .int .u8 (s : Int)) (by kernel_rfl) (by kernel_rfl) (by kernel_rfl) (fun _ _ _ h => h) X.out (Or.inl ⟨by rfl, fun w hw => by go_simp; try (with_reducible rfl)⟩) ?_
            simp only [Act.put, List.setIfInBounds_toArray, List.set_cons_zero, List.set_cons_succ]
            refine tk1 (v := .int .u8 (s : Int)) (by kernel_rfl) (by kernel_rfl) (by kernel_rfl) (fun _ _ _ h => h) X.out (Or.inl ⟨by rfl, fun w hw => by go_simp; try (with_reducible rfl)⟩) ?_
            simp only [Act.put, List.setIfInBounds_toArray, List.set_cons_zero, List.set_cons_succ]
            refine tk2 (v := .pointer (some ⟨g + 3, 0, none⟩)) (by kernel_rfl) (by kernel_rfl) (by kernel_rfl) (fun _ _ _ h => h) X.out (Or.inl ⟨by rfl, fun w hw => by go_simp; try (with_reducible rfl)⟩) ?_
            simp only [Act.put, List.setIfInBounds_toArray, List.set_cons_zero, List.set_cons_succ]
            refine tk3 (v := .pointer (some ⟨g + 3, s * 288, none⟩)) (by kernel_rfl) (by kernel_rfl) (by kernel_rfl) (fun _ _ _ h => h) X.out (Or.inl ⟨by rfl, fun w hw => by go_simp; try (with_reducible rfl)⟩) ?_
            simp only [Act.put, List.setIfInBounds_toArray, List.set_cons_zero, List.set_cons_succ]
            refine tk5 (v := .pointer (some ⟨g8, 1, none⟩)) (by kernel_rfl) (by kernel_rfl) (by kernel_rfl) (fun _ _ _ h => h) X.out (Or.inl ⟨by rfl, fun w hw => by go_simp; try (with_reducible rfl)⟩) ?_
            simp only [Act.put, List.setIfInBounds_toArray, List.set_cons_zero, List.set_cons_succ]
            refine tk6 (v := .pointer (some ⟨g8, 2, none⟩)) (by kernel_rfl) (by kernel_rfl) (by kernel_rfl) (fun _ _ _ h => h) X.out (Or.inl ⟨by rfl, fun w hw => by go_simp; try (with_reducible rfl)⟩) ?_
            simp only [Act.put, List.setIfInBounds_toArray, List.set_cons_zero, List.set_cons_succ]
            refine tk7 (v := .int .u8 d.a.t) (by kernel_rfl) (by kernel_rfl) (by kernel_rfl) (fun _ _ _ h => h) X.out (Or.inl ⟨by rfl, fun w hw => by have c := hw.cell 2 rfl; go_simp; try (with_reducible rfl)⟩) ?_
            simp only [Act.put, List.setIfInBounds_toArray, List.set_cons_zero, List.set_cons_succ]
            refine tk8 (v := .pointer (some ⟨g8, 1, none⟩)) (by kernel_rfl) (by kernel_rfl) (by kernel_rfl) (fun _ _ _ h => h) X.out (Or.inl ⟨by rfl, fun w hw => by go_simp; try (with_reducible rfl)⟩) ?_
            simp only [Act.put, List.setIfInBounds_toArray, List.set_cons_zero, List.set_cons_succ]
            refine tk9 (v := .pointer (some ⟨g8, 3, none⟩)) (by kernel_rfl) (by kernel_rfl) (by kernel_rfl) (fun _ _ _ h => h) X.out (Or.inl ⟨by rfl, fun w hw => by go_simp; try (with_reducible rfl)⟩) ?_
            simp only [Act.put, List.setIfInBounds_toArray, List.set_cons_zero, List.set_cons_succ]
            refine tk10 (v := .int .u8 d.a.f) (by kernel_rfl) (by kernel_rfl) (by kernel_rfl) (fun _ _ _ h => h) X.out (Or.inl ⟨by rfl, fun w hw => by have c := hw.cell 3 rfl; go_simp; try (with_reducible rfl)⟩) ?_
            simp only [Act.put, List.setIfInBounds_toArray, List.set_cons_zero, List.set_cons_succ]
            refine tk11 (v := .pointer (some ⟨g8, 1, none⟩)) (by kernel_rfl) (by kernel_rfl) (by kernel_rfl) (fun _ _ _ h => h) X.out (Or.inl ⟨by rfl, fun w hw => by go_simp; try (with_reducible rfl)⟩) ?_
            simp only [Act.put, List.setIfInBounds_toArray, List.set_cons_zero, List.set_cons_succ]
            refine tk12 (v := .pointer (some ⟨g8, 5, none⟩)) (by kernel_rfl) (by kernel_rfl) (by kernel_rfl) (fun _ _ _ h => h) X.out (Or.inl ⟨by rfl, fun w hw => by go_simp; try (with_reducible rfl)⟩) ?_
            simp only [Act.put, List.setIfInBounds_toArray, List.set_cons_zero, List.set_cons_succ]
            refine tk13 (by kernel_rfl) (by kernel_rfl) (by kernel_rfl) (fun _ _ _ h => h) X.out (yieldsIf_load_mid (by rfl) _ _ rfl (g8) (5) rfl ([.int .u64 (lm d.a.n 0), .int .u64 (lm d.a.n 1), .int .u64 (lm d.a.n 2), .int .u64 (lm d.a.n 3)]) _ (fun _ hw => hw.numD) Tryz.underlying29 rfl (by kernel_rfl)) ?_
            simp only [Act.put, List.setIfInBounds_toArray, List.set_cons_zero, List.set_cons_succ]
            refine tk18 (v := .pointer (some ⟨g + 3, 0, none⟩)) (by kernel_rfl) (by kernel_rfl) (by kernel_rfl) (fun _ _ _ h => h) X.out (Or.inl ⟨by rfl, fun w hw => by go_simp; try (with_reducible rfl)⟩) ?_
            simp only [Act.put, List.setIfInBounds_toArray, List.set_cons_zero, List.set_cons_succ]
            refine wpAnyH_ready (rs := [4]) (by kernel_rfl) (by simp) ?_
            refine rd4 (fun K hK => ?_) AllReadyH.nil
            rw [if_pos (by rfl)]
            refine wp_load_mid 33 _ rfl (g + 3) (s * 288) rfl (rowU 288 (tl (tb (LL s)))) _ (Y.out.nx.bookP hs) Tryz.underlying33 rfl (info_tb _) ?_
            refine hK.out _ _ X.out (fun _ => ?_)
            clear hK K
            simp only [Act.put, List.setIfInBounds_toArray, List.set_cons_zero, List.set_cons_succ]
            refine wpAnyH_ready (rs := [14]) (by kernel_rfl) (by simp) ?_
            refine rd14 (fun K hK => ?_) AllReadyH.nil
            go_simp
            refine (CR.out w7).mono ?_
            rintro e w8 ⟨rfl, hb8⟩
            simp only []
            replace X := hide (X.out.after hb8 rfl)
            replace Y := hide (Y.out.after hb8)
            clear hb8
            refine hK.out _ _ X.out (fun _ => ?_)
            clear hK K
            refine tk15 (v := .tuple #[tv (tb (dL LL d)), .int .i64 E]) (by kernel_rfl) (by kernel_rfl) (by kernel_rfl) (fun _ _ _ h => h) X.out (Or.inl ⟨by rfl, fun w hw => by go_simp; try (with_reducible rfl)⟩) ?_
            simp only [Act.put, List.setIfInBounds_toArray, List.set_cons_zero, List.set_cons_succ]
            refine tk16 (v := tv (tb (dL LL d))) (by kernel_rfl) (by kernel_rfl) (by kernel_rfl) (fun _ _ _ h => h) X.out (Or.inl ⟨by rfl, fun w hw => by go_simp; try (with_reducible rfl)⟩) ?_
            simp only [Act.put, List.setIfInBounds_toArray, List.set_cons_zero, List.set_cons_succ]
            refine tk17 (v := .int .i64 E) (by kernel_rfl) (by kernel_rfl) (by kernel_rfl) (fun _ _ _ h => h) X.out (Or.inl ⟨by rfl, fun w hw => by go_simp; try (with_reducible rfl)⟩) ?_
            simp only [Act.put, List.setIfInBounds_toArray, List.set_cons_zero, List.set_cons_succ]
            refine tk19 (v := .pointer (some ⟨g + 3, s * 288, none⟩)) (by kernel_rfl) (by kernel_rfl) (by kernel_rfl) (fun _ _ _ h => h) X.out (Or.inl ⟨by rfl, fun w hw => by go_simp; try (with_reducible rfl)⟩) ?_
            simp only [Act.put, List.setIfInBounds_toArray, List.set_cons_zero, List.set_cons_succ]
            refine wpAnyH_ready (rs := [20]) (by kernel_rfl) (by simp) ?_
            refine rd20 (fun K hK => ?_) AllReadyH.nil
            rw [if_pos (by rfl)]
            refine wp_store_mid _ _ _ rfl (g + 3) (s * 288) (rowU 288 (tl (tb (dL LL d)))).toArray rfl rfl (Y.out.nx.thereAt (s * 288) 288 _ (by omega)) (info_tbA _) (rowU_oneA _ _) ?_
            obtain ⟨w9, hw9⟩ : ∃ w9, w8.setCells (g + 3) (s * 288) (rowU 288 (tl (tb (dL LL d)))) = w9 := ⟨_, rfl⟩
            replace Y := hide (Y.out.put HG.out hs (dL LL d))
            replace X := hide (X.out.setO (q := g + 3) (o := s * 288) HG8.out (rowU 288 (tl (tb (dL LL d)))))
            rw [hw9] at X Y
            rw [show (rowU 288 (tl (tb (dL LL d)))).toArray.toList = rowU 288 (tl (tb (dL LL d))) from List.toList_toArray, hw9]
            clear hw9
            refine hK.out _ _ X.out (fun _ => ?_)
            clear hK K
            refine tk21 (v := .int .i64 E) (by kernel_rfl) (by kernel_rfl) (by kernel_rfl) (fun _ _ _ h => h) X.out (Or.inl ⟨by rfl, fun w hw => by go_simp; try (with_reducible rfl)⟩) ?_
            simp only [Act.put, List.setIfInBounds_toArray, List.set_cons_zero, List.set_cons_succ]
            refine wpAnyH_done (by kernel_rfl) ?_ _
            clear CR X
            by_cases hE0 : E = 0
            · subst hE0
              go_wp2
              go_roundw
              case rel => exact ⟨k + 1, _, by omega, by simp, Y.out, RS.out, HGL.out⟩
              case measure => simp [intOf]; omega
            · obtain ⟨fr, Rr⟩ := Y.out.res
              obtain ⟨w10, hw10⟩ : ∃ w10, w9.setCells (g + 2) 0 (rowU 592 (pf L N)) = w10 := ⟨_, rfl⟩
              have R10 : Hid (URow w10 (g + 2) 592 (pf L N) ∧ Below w.heap.size w w10) := by rw [← hw10]; exact hide ⟨Rr.stored _, setCells_below Y.out.be (by rw [hg]; omega) _ _⟩
              have hsR : rD L x.ds = (E, upS LL s (dL LL d)) := by
                conv => lhs; rw [← List.take_append_drop (k + 1) x.ds]
                rw [rD_stop _ _ _ (by rw [RS.out]; exact hE0)]
                exact RS.out
              have eR : sR L x = E := by unfold sR; rw [hsR, if_neg hE0]
              have eE : sE L x = E := by unfold sE; rw [if_neg (by omega), if_neg (by simp [HN0.out]), eR]
              have eL : sL L x = L := by unfold sL; rw [eE, if_neg hE0]
              have eN : sN L N x = N := by unfold sN; rw [eE, if_neg hE0]
              have HDN : Hid (WDone w L N x (.returned (.tuple #[pv L N, .int .i64 E])) w10) := by unfold WDone; rw [eE, eL, eN]; exact hide ⟨rfl, R10.out.2⟩
              clear hsR eR eE eL eN RS
              go_wp2_with (first | (refine wpList_load_mid rfl 37 _ rfl g 0 rfl (rowU 592 (pf L N)) _ ?hr Tryz.underlying37 rfl (info_pv _) ?_; (case hr => exact Y.out.old.range)) | (refine wpList_store_mid rfl 37 _ _ rfl (g + 2) 0 (rowU 592 (pf L N)).toArray rfl rfl ?hr (info_pvA _) (rowU_oneA _ _) ?_; (case hr => exact Rr.thereA _); try simp only [List.toList_toArray]; try rw [hw10]))
              refine bodyPost_ret (v := .tuple #[pv L N, .int .i64 E]) ?_ rfl HDN.out
              have hlv := run_loadVar_mid (P := Tryz.prog) _ _ _ _ _ _ R10.out.1.range Tryz.underlying37 rfl (info_pv _)
              exact results_two Tryz.results11 rfl rfl hlv
          · have hkt : d.a.k.tmod 3 = 1 := by rw [Int.tmod_eq_emod_of_nonneg hdo.a.k.1]; exact hkk
            have hE : dE LL d = burnE (LL d.sd) d.a.t d.a.f d.a.n := by unfold dE; simp [hkk]
            have hLd : dL LL d = burnL (LL d.sd) d.a.t d.a.f d.a.n := by unfold dL; simp [hkk]
            have CR := hide (fun w => burn13_l (hgl d.sd d.sd_lt).1 (hgl d.sd d.sd_lt).2 w hdo.a.t hdo.a.f hdo.a.n)
            rw [← hE, ← hLd] at CR
            clear hE hLd
            generalize hsd2 : d.sd = s at *
            clear hsd2
            obtain ⟨E, hEe⟩ : ∃ E, dE LL d = E := ⟨_, rfl⟩
            rw [hEe] at CR RS
            clear hEe hkk
            go_wp2
            try rw [hw6]
            clear hw6
            refine wp_region_held_drew (S := fun w1 => VRow w1 g8 (ddV d)) (by kernel_rfl) X.out (fun _ => ?_)
            generalize w6.drew = w7 at *
            refine tk0 (v := .int .u8 (s : Int)) (by kernel_rfl) (by kernel_rfl) (by kernel_rfl) (fun _ _ _ h => h) X.out (Or.inl ⟨by rfl, fun w hw => by go_simp; try (with_reducible rfl)⟩) ?_
            simp only [Act.put, List.setIfInBounds_toArray, List.set_cons_zero, List.set_cons_succ]
            refine tk1 (v := .int .u8 (s : Int)) (by kernel_rfl) (by kernel_rfl) (by kernel_rfl) (fun _ _ _ h => h) X.out (Or.inl ⟨by rfl, fun w hw => by go_simp; try (with_reducible rfl)⟩) ?_
            simp only [Act.put, List.setIfInBounds_toArray, List.set_cons_zero, List.set_cons_succ]
            refine tk2 (v := .pointer (some ⟨g + 3, 0, none⟩)) (by kernel_rfl) (by kernel_rfl) (by kernel_rfl) (fun _ _ _ h => h) X.out (Or.inl ⟨by rfl, fun w hw => by go_simp; try (with_reducible rfl)⟩) ?_
            simp only [Act.put, List.setIfInBounds_toArray, List.set_cons_zero, List.set_cons_succ]
            refine tk3 (v := .pointer (some ⟨g + 3, s * 288, none⟩)) (by kernel_rfl) (by kernel_rfl) (by kernel_rfl) (fun _ _ _ h => h) X.out (Or.inl ⟨by rfl, fun w hw => by go_simp; try (with_reducible rfl)⟩) ?_
            simp only [Act.put, List.setIfInBounds_toArray, List.set_cons_zero, List.set_cons_succ]
            refine tk5 (v := .pointer (some ⟨g8, 1, none⟩)) (by kernel_rfl) (by kernel_rfl) (by kernel_rfl) (fun _ _ _ h => h) X.out (Or.inl ⟨by rfl, fun w hw => by go_simp; try (with_reducible rfl)⟩) ?_
            simp only [Act.put, List.setIfInBounds_toArray, List.set_cons_zero, List.set_cons_succ]
            refine tk6 (v := .pointer (some ⟨g8, 2, none⟩)) (by kernel_rfl) (by kernel_rfl) (by kernel_rfl) (fun _ _ _ h => h) X.out (Or.inl ⟨by rfl, fun w hw => by go_simp; try (with_reducible rfl)⟩) ?_
            simp only [Act.put, List.setIfInBounds_toArray, List.set_cons_zero, List.set_cons_succ]
            refine tk7 (v := .int .u8 d.a.t) (by kernel_rfl) (by kernel_rfl) (by kernel_rfl) (fun _ _ _ h => h) X.out (Or.inl ⟨by rfl, fun w hw => by have c := hw.cell 2 rfl; go_simp; try (with_reducible rfl)⟩) ?_
            simp only [Act.put, List.setIfInBounds_toArray, List.set_cons_zero, List.set_cons_succ]
            refine tk8 (v := .pointer (some ⟨g8, 1, none⟩)) (by kernel_rfl) (by kernel_rfl) (by kernel_rfl) (fun _ _ _ h => h) X.out (Or.inl ⟨by rfl, fun w hw => by go_simp; try (with_reducible rfl)⟩) ?_
            simp only [Act.put, List.setIfInBounds_toArray, List.set_cons_zero, List.set_cons_succ]
            refine tk9 (v := .pointer (some ⟨g8, 3, none⟩)) (by kernel_rfl) (by kernel_rfl) (by kernel_rfl) (fun _ _ _ h => h) X.out (Or.inl ⟨by rfl, fun w hw => by go_simp; try (with_reducible rfl)⟩) ?_
            simp only [Act.put, List.setIfInBounds_toArray, List.set_cons_zero, List.set_cons_succ]
            refine tk10 (v := .int .u8 d.a.f) (by kernel_rfl) (by kernel_rfl) (by kernel_rfl) (fun _ _ _ h => h) X.out (Or.inl ⟨by rfl, fun w hw => by have c := hw.cell 3 rfl; go_simp; try (with_reducible rfl)⟩) ?_
            simp only [Act.put, List.setIfInBounds_toArray, List.set_cons_zero, List.set_cons_succ]
            refine tk11 (v := .pointer (some ⟨g8, 1, none⟩)) (by kernel_rfl) (by kernel_rfl) (by kernel_rfl) (fun _ _ _ h => h) X.out (Or.inl ⟨by rfl, fun w hw => by go_simp; try (with_reducible rfl)⟩) ?_
            simp only [Act.put, List.setIfInBounds_toArray, List.set_cons_zero, List.set_cons_succ]
            refine tk12 (v := .pointer (some ⟨g8, 5, none⟩)) (by kernel_rfl) (by kernel_rfl) (by kernel_rfl) (fun _ _ _ h => h) X.out (Or.inl ⟨by rfl, fun w hw => by go_simp; try (with_reducible rfl)⟩) ?_
            simp only [Act.put, List.setIfInBounds_toArray, List.set_cons_zero, List.set_cons_succ]
            refine tk13 (by kernel_rfl) (by kernel_rfl) (by kernel_rfl) (fun _ _ _ h => h) X.out (yieldsIf_load_mid (by rfl) _ _ rfl (g8) (5) rfl ([.int .u64 (lm d.a.n 0), .int .u64 (lm d.a.n 1), .int .u64 (lm d.a.n 2), .int .u64 (lm d.a.n 3)]) _ (fun _ hw => hw.numD) Tryz.underlying29 rfl (by kernel_rfl)) ?_
            simp only [Act.put, List.setIfInBounds_toArray, List.set_cons_zero, List.set_cons_succ]
            refine tk18 (v := .pointer (some ⟨g + 3, 0, none⟩)) (by kernel_rfl) (by kernel_rfl) (by kernel_rfl) (fun _ _ _ h => h) X.out (Or.inl ⟨by rfl, fun w hw => by go_simp; try (with_reducible rfl)⟩) ?_
            simp only [Act.put, List.setIfInBounds_toArray, List.set_cons_zero, List.set_cons_succ]
            refine wpAnyH_ready (rs := [4]) (by kernel_rfl) (by simp) ?_
            refine rd4 (fun K hK => ?_) AllReadyH.nil
            rw [if_pos (by rfl)]
            refine wp_load_mid 33 _ rfl (g + 3) (s * 288) rfl (rowU 288 (tl (tb (LL s)))) _ (Y.out.nx.bookP hs) Tryz.underlying33 rfl (info_tb _) ?_
            refine hK.out _ _ X.out (fun _ => ?_)
            clear hK K
            simp only [Act.put, List.setIfInBounds_toArray, List.set_cons_zero, List.set_cons_succ]
            refine wpAnyH_ready (rs := [14]) (by kernel_rfl) (by simp) ?_
            refine rd14 (fun K hK => ?_) AllReadyH.nil
            go_simp
            refine (CR.out w7).mono ?_
            rintro e w8 ⟨rfl, hb8⟩
            simp only []
            replace X := hide (X.out.after hb8 rfl)
            replace Y := hide (Y.out.after hb8)
            clear hb8
            refine hK.out _ _ X.out (fun _ => ?_)
            clear hK K
            refine tk15 (v := .tuple #[tv (tb (dL LL d)), .int .i64 E]) (by kernel_rfl) (by kernel_rfl) (by kernel_rfl) (fun _ _ _ h => h) X.out (Or.inl ⟨by rfl, fun w hw => by go_simp; try (with_reducible rfl)⟩) ?_
            simp only [Act.put, List.setIfInBounds_toArray, List.set_cons_zero, List.set_cons_succ]
            refine tk16 (v := tv (tb (dL LL d))) (by kernel_rfl) (by kernel_rfl) (by kernel_rfl) (fun _ _ _ h => h) X.out (Or.inl ⟨by rfl, fun w hw => by go_simp; try (with_reducible rfl)⟩) ?_
            simp only [Act.put, List.setIfInBounds_toArray, List.set_cons_zero, List.set_cons_succ]
            refine tk17 (v := .int .i64 E) (by kernel_rfl) (by kernel_rfl) (by kernel_rfl) (fun _ _ _ h => h) X.out (Or.inl ⟨by rfl, fun w hw => by go_simp; try (with_reducible rfl)⟩) ?_
            simp only [Act.put, List.setIfInBounds_toArray, List.set_cons_zero, List.set_cons_succ]
            refine tk19 (v := .pointer (some ⟨g + 3, s * 288, none⟩)) (by kernel_rfl) (by kernel_rfl) (by kernel_rfl) (fun _ _ _ h => h) X.out (Or.inl ⟨by rfl, fun w hw => by go_simp; try (with_reducible rfl)⟩) ?_
            simp only [Act.put, List.setIfInBounds_toArray, List.set_cons_zero, List.set_cons_succ]
            refine wpAnyH_ready (rs := [20]) (by kernel_rfl) (by simp) ?_
            refine rd20 (fun K hK => ?_) AllReadyH.nil
            rw [if_pos (by rfl)]
            refine wp_store_mid _ _ _ rfl (g + 3) (s * 288) (rowU 288 (tl (tb (dL LL d)))).toArray rfl rfl (Y.out.nx.thereAt (s * 288) 288 _ (by omega)) (info_tbA _) (rowU_oneA _ _) ?_
            obtain ⟨w9, hw9⟩ : ∃ w9, w8.setCells (g + 3) (s * 288) (rowU 288 (tl (tb (dL LL d)))) = w9 := ⟨_, rfl⟩
            replace Y := hide (Y.out.put HG.out hs (dL LL d))
            replace X := hide (X.out.setO (q := g + 3) (o := s * 288) HG8.out (rowU 288 (tl (tb (dL LL d)))))
            rw [hw9] at X Y
            rw [show (rowU 288 (tl (tb (dL LL d)))).toArray.toList = rowU 288 (tl (tb (dL LL d))) from List.toList_toArray, hw9]
            clear hw9
            refine hK.out _ _ X.out (fun _ => ?_)
            clear hK K
            refine tk21 (v := .int .i64 E) (by kernel_rfl) (by kernel_rfl) (by kernel_rfl) (fun _ _ _ h => h) X.out (Or.inl ⟨by rfl, fun w hw => by go_simp; try (with_reducible rfl)⟩) ?_
            simp only [Act.put, List.setIfInBounds_toArray, List.set_cons_zero, List.set_cons_succ]
            refine wpAnyH_done (by kernel_rfl) ?_ _
            clear CR X
            by_cases hE0 : E = 0
            · subst hE0
              go_wp2
              go_roundw
              case rel => exact ⟨k + 1, _, by omega, by simp, Y.out, RS.out, HGL.out⟩
              case measure => simp [intOf]; omega
            · obtain ⟨fr, Rr⟩ := Y.out.res
              obtain ⟨w10, hw10⟩ : ∃ w10, w9.setCells (g + 2) 0 (rowU 592 (pf L N)) = w10 := ⟨_, rfl⟩
              have R10 : Hid (URow w10 (g + 2) 592 (pf L N) ∧ Below w.heap.size w w10) := by rw [← hw10]; exact hide ⟨Rr.stored _, setCells_below Y.out.be (by rw [hg]; omega) _ _⟩
              have hsR : rD L x.ds = (E, upS LL s (dL LL d)) := by
                conv => lhs; rw [← List.take_append_drop (k + 1) x.ds]
                rw [rD_stop _ _ _ (by rw [RS.out]; exact hE0)]
                exact RS.out
              have eR : sR L x = E := by unfold sR; rw [hsR, if_neg hE0]
              have eE : sE L x = E := by unfold sE; rw [if_neg (by omega), if_neg (by simp [HN0.out]), eR]
              have eL : sL L x = L := by unfold sL; rw [eE, if_neg hE0]
              have eN : sN L N x = N := by unfold sN; rw [eE, if_neg hE0]
              have HDN : Hid (WDone w L N x (.returned (.tuple #[pv L N, .int .i64 E])) w10) := by unfold WDone; rw [eE, eL, eN]; exact hide ⟨rfl, R10.out.2⟩
              clear hsR eR eE eL eN RS
              go_wp2_with (first | (refine wpList_load_mid rfl 37 _ rfl g 0 rfl (rowU 592 (pf L N)) _ ?hr Tryz.underlying37 rfl (info_pv _) ?_; (case hr => exact Y.out.old.range)) | (refine wpList_store_mid rfl 37 _ _ rfl (g + 2) 0 (rowU 592 (pf L N)).toArray rfl rfl ?hr (info_pvA _) (rowU_oneA _ _) ?_; (case hr => exact Rr.thereA _); try simp only [List.toList_toArray]; try rw [hw10]))
              refine bodyPost_ret (v := .tuple #[pv L N, .int .i64 E]) ?_ rfl HDN.out
              have hlv := run_loadVar_mid (P := Tryz.prog) _ _ _ _ _ _ R10.out.1.range Tryz.underlying37 rfl (info_pv _)
              exact results_two Tryz.results11 rfl rfl hlv
          · have hkt : d.a.k.tmod 3 = 2 := by rw [Int.tmod_eq_emod_of_nonneg hdo.a.k.1]; exact hkk
            have hE : dE LL d = moveE (LL d.sd) d.a.t d.a.f d.a.o d.a.n := by unfold dE; simp [hkk]
            have hLd : dL LL d = moveL (LL d.sd) d.a.t d.a.f d.a.o d.a.n := by unfold dL; simp [hkk]
            have CR := hide (fun w => move13_l (hgl d.sd d.sd_lt).1 (hgl d.sd d.sd_lt).2 w hdo.a.t hdo.a.f hdo.a.o hdo.a.n)
            rw [← hE, ← hLd] at CR
            clear hE hLd
            generalize hsd2 : d.sd = s at *
            clear hsd2
            obtain ⟨E, hEe⟩ : ∃ E, dE LL d = E := ⟨_, rfl⟩
            rw [hEe] at CR RS
            clear hEe hkk
            go_wp2
            try rw [hw6]
            clear hw6
            refine wp_region_held_drew (S := fun w1 => VRow w1 g8 (ddV d)) (by kernel_rfl) X.out (fun _ => ?_)
            generalize w6.drew = w7 at *
            refine tk0 (v := .int .u8 (s : Int)) (by kernel_rfl) (by kernel_rfl) (by kernel_rfl) (fun _ _ _ h => h) X.out (Or.inl ⟨by rfl, fun w hw => by go_simp; try (with_reducible rfl)⟩) ?_
            simp only [Act.put, List.setIfInBounds_toArray, List.set_cons_zero, List.set_cons_succ]
            refine tk1 (v := .int .u8 (s : Int)) (by kernel_rfl) (by kernel_rfl) (by kernel_rfl) (fun _ _ _ h => h) X.out (Or.inl ⟨by rfl, fun w hw => by go_simp; try (with_reducible rfl)⟩) ?_
            simp only [Act.put, List.setIfInBounds_toArray, List.set_cons_zero, List.set_cons_succ]
            refine tk2 (v := .pointer (some ⟨g + 3, 0, none⟩)) (by kernel_rfl) (by kernel_rfl) (by kernel_rfl) (fun _ _ _ h => h) X.out (Or.inl ⟨by rfl, fun w hw => by go_simp; try (with_reducible rfl)⟩) ?_
            simp only [Act.put, List.setIfInBounds_toArray, List.set_cons_zero, List.set_cons_succ]
            refine tk3 (v := .pointer (some ⟨g + 3, s * 288, none⟩)) (by kernel_rfl) (by kernel_rfl) (by kernel_rfl) (fun _ _ _ h => h) X.out (Or.inl ⟨by rfl, fun w hw => by go_simp; try (with_reducible rfl)⟩) ?_
            simp only [Act.put, List.setIfInBounds_toArray, List.set_cons_zero, List.set_cons_succ]
            refine tk5 (v := .pointer (some ⟨g8, 1, none⟩)) (by kernel_rfl) (by kernel_rfl) (by kernel_rfl) (fun _ _ _ h => h) X.out (Or.inl ⟨by rfl, fun w hw => by go_simp; try (with_reducible rfl)⟩) ?_
            simp only [Act.put, List.setIfInBounds_toArray, List.set_cons_zero, List.set_cons_succ]
            refine tk6 (v := .pointer (some ⟨g8, 2, none⟩)) (by kernel_rfl) (by kernel_rfl) (by kernel_rfl) (fun _ _ _ h => h) X.out (Or.inl ⟨by rfl, fun w hw => by go_simp; try (with_reducible rfl)⟩) ?_
            simp only [Act.put, List.setIfInBounds_toArray, List.set_cons_zero, List.set_cons_succ]
            refine tk7 (v := .int .u8 d.a.t) (by kernel_rfl) (by kernel_rfl) (by kernel_rfl) (fun _ _ _ h => h) X.out (Or.inl ⟨by rfl, fun w hw => by have c := hw.cell 2 rfl; go_simp; try (with_reducible rfl)⟩) ?_
            simp only [Act.put, List.setIfInBounds_toArray, List.set_cons_zero, List.set_cons_succ]
            refine tk8 (v := .pointer (some ⟨g8, 1, none⟩)) (by kernel_rfl) (by kernel_rfl) (by kernel_rfl) (fun _ _ _ h => h) X.out (Or.inl ⟨by rfl, fun w hw => by go_simp; try (with_reducible rfl)⟩) ?_
            simp only [Act.put, List.setIfInBounds_toArray, List.set_cons_zero, List.set_cons_succ]
            refine tk9 (v := .pointer (some ⟨g8, 3, none⟩)) (by kernel_rfl) (by kernel_rfl) (by kernel_rfl) (fun _ _ _ h => h) X.out (Or.inl ⟨by rfl, fun w hw => by go_simp; try (with_reducible rfl)⟩) ?_
            simp only [Act.put, List.setIfInBounds_toArray, List.set_cons_zero, List.set_cons_succ]
            refine tk10 (v := .int .u8 d.a.f) (by kernel_rfl) (by kernel_rfl) (by kernel_rfl) (fun _ _ _ h => h) X.out (Or.inl ⟨by rfl, fun w hw => by have c := hw.cell 3 rfl; go_simp; try (with_reducible rfl)⟩) ?_
            simp only [Act.put, List.setIfInBounds_toArray, List.set_cons_zero, List.set_cons_succ]
            refine tk11 (v := .pointer (some ⟨g8, 1, none⟩)) (by kernel_rfl) (by kernel_rfl) (by kernel_rfl) (fun _ _ _ h => h) X.out (Or.inl ⟨by rfl, fun w hw => by go_simp; try (with_reducible rfl)⟩) ?_
            simp only [Act.put, List.setIfInBounds_toArray, List.set_cons_zero, List.set_cons_succ]
            refine tk12 (v := .pointer (some ⟨g8, 4, none⟩)) (by kernel_rfl) (by kernel_rfl) (by kernel_rfl) (fun _ _ _ h => h) X.out (Or.inl ⟨by rfl, fun w hw => by go_simp; try (with_reducible rfl)⟩) ?_
            simp only [Act.put, List.setIfInBounds_toArray, List.set_cons_zero, List.set_cons_succ]
            refine tk13 (v := .int .u8 d.a.o) (by kernel_rfl) (by kernel_rfl) (by kernel_rfl) (fun _ _ _ h => h) X.out (Or.inl ⟨by rfl, fun w hw => by have c := hw.cell 4 rfl; go_simp; try (with_reducible rfl)⟩) ?_
            simp only [Act.put, List.setIfInBounds_toArray, List.set_cons_zero, List.set_cons_succ]
            refine tk14 (v := .pointer (some ⟨g8, 1, none⟩)) (by kernel_rfl) (by kernel_rfl) (by kernel_rfl) (fun _ _ _ h => h) X.out (Or.inl ⟨by rfl, fun w hw => by go_simp; try (with_reducible rfl)⟩) ?_
            simp only [Act.put, List.setIfInBounds_toArray, List.set_cons_zero, List.set_cons_succ]
            refine tk15 (v := .pointer (some ⟨g8, 5, none⟩)) (by kernel_rfl) (by kernel_rfl) (by kernel_rfl) (fun _ _ _ h => h) X.out (Or.inl ⟨by rfl, fun w hw => by go_simp; try (with_reducible rfl)⟩) ?_
            simp only [Act.put, List.setIfInBounds_toArray, List.set_cons_zero, List.set_cons_succ]
            refine tk16 (by kernel_rfl) (by kernel_rfl) (by kernel_rfl) (fun _ _ _ h => h) X.out (yieldsIf_load_mid (by rfl) _ _ rfl (g8) (5) rfl ([.int .u64 (lm d.a.n 0), .int .u64 (lm d.a.n 1), .int .u64 (lm d.a.n 2), .int .u64 (lm d.a.n 3)]) _ (fun _ hw => hw.numD) Tryz.underlying29 rfl (by kernel_rfl)) ?_
            simp only [Act.put, List.setIfInBounds_toArray, List.set_cons_zero, List.set_cons_succ]
            refine tk21 (v := .pointer (some ⟨g + 3, 0, none⟩)) (by kernel_rfl) (by kernel_rfl) (by kernel_rfl) (fun _ _ _ h => h) X.out (Or.inl ⟨by rfl, fun w hw => by go_simp; try (with_reducible rfl)⟩) ?_
            simp only [Act.put, List.setIfInBounds_toArray, List.set_cons_zero, List.set_cons_succ]
            refine wpAnyH_ready (rs := [4]) (by kernel_rfl) (by simp) ?_
            refine rd4 (fun K hK => ?_) AllReadyH.nil
            rw [if_pos (by rfl)]
            refine wp_load_mid 33 _ rfl (g + 3) (s * 288) rfl (rowU 288 (tl (tb (LL s)))) _ (Y.out.nx.bookP hs) Tryz.underlying33 rfl (info_tb _) ?_
            refine hK.out _ _ X.out (fun _ => ?_)
            clear hK K
            simp only [Act.put, List.setIfInBounds_toArray, List.set_cons_zero, List.set_cons_succ]
            refine wpAnyH_ready (rs := [17]) (by kernel_rfl) (by simp) ?_
            refine rd17 (fun K hK => ?_) AllReadyH.nil
            go_simp
            refine (CR.out w7).mono ?_
            rintro e w8 ⟨rfl, hb8⟩
            simp only []
            replace X := hide (X.out.after hb8 rfl)
            replace Y := hide (Y.out.after hb8)
            clear hb8
            refine hK.out _ _ X.out (fun _ => ?_)
            clear hK K
            refine tk18 (v := .tuple #[tv (tb (dL LL d)), .int .i64 E]) (by kernel_rfl) (by kernel_rfl) (by kernel_rfl) (fun _ _ _ h => h) X.out (Or.inl ⟨by rfl, fun w hw => by go_simp; try (with_reducible rfl)⟩) ?_
            simp only [Act.put, List.setIfInBounds_toArray, List.set_cons_zero, List.set_cons_succ]
            refine tk19 (v := tv (tb (dL LL d))) (by kernel_rfl) (by kernel_rfl) (by kernel_rfl) (fun _ _ _ h => h) X.out (Or.inl ⟨by rfl, fun w hw => by go_simp; try (with_reducible rfl)⟩) ?_
            simp only [Act.put, List.setIfInBounds_toArray, List.set_cons_zero, List.set_cons_succ]
            refine tk20 (v := .int .i64 E) (by kernel_rfl) (by kernel_rfl) (by kernel_rfl) (fun _ _ _ h => h) X.out (Or.inl ⟨by rfl, fun w hw => by go_simp; try (with_reducible rfl)⟩) ?_
            simp only [Act.put, List.setIfInBounds_toArray, List.set_cons_zero, List.set_cons_succ]
            refine tk22 (v := .pointer (some ⟨g + 3, s * 288, none⟩)) (by kernel_rfl) (by kernel_rfl) (by kernel_rfl) (fun _ _ _ h => h) X.out (Or.inl ⟨by rfl, fun w hw => by go_simp; try (with_reducible rfl)⟩) ?_
            simp only [Act.put, List.setIfInBounds_toArray, List.set_cons_zero, List.set_cons_succ]
            refine wpAnyH_ready (rs := [23]) (by kernel_rfl) (by simp) ?_
            refine rd23 (fun K hK => ?_) AllReadyH.nil
            rw [if_pos (by rfl)]
            refine wp_store_mid _ _ _ rfl (g + 3) (s * 288) (rowU 288 (tl (tb (dL LL d)))).toArray rfl rfl (Y.out.nx.thereAt (s * 288) 288 _ (by omega)) (info_tbA _) (rowU_oneA _ _) ?_
            obtain ⟨w9, hw9⟩ : ∃ w9, w8.setCells (g + 3) (s * 288) (rowU 288 (tl (tb (dL LL d)))) = w9 := ⟨_, rfl⟩
            replace Y := hide (Y.out.put HG.out hs (dL LL d))
            replace X := hide (X.out.setO (q := g + 3) (o := s * 288) HG8.out (rowU 288 (tl (tb (dL LL d)))))
            rw [hw9] at X Y
            rw [show (rowU 288 (tl (tb (dL LL d)))).toArray.toList = rowU 288 (tl (tb (dL LL d))) from List.toList_toArray, hw9]
            clear hw9
            refine hK.out _ _ X.out (fun _ => ?_)
            clear hK K
            refine tk24 (v := .int .i64 E) (by kernel_rfl) (by kernel_rfl) (by kernel_rfl) (fun _ _ _ h => h) X.out (Or.inl ⟨by rfl, fun w hw => by go_simp; try (with_reducible rfl)⟩) ?_
            simp only [Act.put, List.setIfInBounds_toArray, List.set_cons_zero, List.set_cons_succ]
            refine wpAnyH_done (by kernel_rfl) ?_ _
            clear CR X
            by_cases hE0 : E = 0
            · subst hE0
              go_wp2
              go_roundw
              case rel => exact ⟨k + 1, _, by omega, by simp, Y.out, RS.out, HGL.out⟩
              case measure => simp [intOf]; omega
            · obtain ⟨fr, Rr⟩ := Y.out.res
              obtain ⟨w10, hw10⟩ : ∃ w10, w9.setCells (g + 2) 0 (rowU 592 (pf L N)) = w10 := ⟨_, rfl⟩
              have R10 : Hid (URow w10 (g + 2) 592 (pf L N) ∧ Below w.heap.size w w10) := by rw [← hw10]; exact hide ⟨Rr.stored _, setCells_below Y.out.be (by rw [hg]; omega) _ _⟩
              have hsR : rD L x.ds = (E, upS LL s (dL LL d)) := by
                conv => lhs; rw [← List.take_append_drop (k + 1) x.ds]
                rw [rD_stop _ _ _ (by rw [RS.out]; exact hE0)]
                exact RS.out
              have eR : sR L x = E := by unfold sR; rw [hsR, if_neg hE0]
              have eE : sE L x = E := by unfold sE; rw [if_neg (by omega), if_neg (by simp [HN0.out]), eR]
              have eL : sL L x = L := by unfold sL; rw [eE, if_neg hE0]
              have eN : sN L N x = N := by unfold sN; rw [eE, if_neg hE0]
              have HDN : Hid (WDone w L N x (.returned (.tuple #[pv L N, .int .i64 E])) w10) := by unfold WDone; rw [eE, eL, eN]; exact hide ⟨rfl, R10.out.2⟩
              clear hsR eR eE eL eN RS
              go_wp2_with (first | (refine wpList_load_mid rfl 37 _ rfl g 0 rfl (rowU 592 (pf L N)) _ ?hr Tryz.underlying37 rfl (info_pv _) ?_; (case hr => exact Y.out.old.range)) | (refine wpList_store_mid rfl 37 _ _ rfl (g + 2) 0 (rowU 592 (pf L N)).toArray rfl rfl ?hr (info_pvA _) (rowU_oneA _ _) ?_; (case hr => exact Rr.thereA _); try simp only [List.toList_toArray]; try rw [hw10]))
              refine bodyPost_ret (v := .tuple #[pv L N, .int .i64 E]) ?_ rfl HDN.out
              have hlv := run_loadVar_mid (P := Tryz.prog) _ _ _ _ _ _ R10.out.1.range Tryz.underlying37 rfl (info_pv _)
              exact results_two Tryz.results11 rfl rfl hlv
        · obtain rfl : k = x.ds.length := by omega
          rw [List.take_length] at hrd
          have u0 : wr.cell? ⟨g + 1, 0, none⟩ = some (.int .u8 f) := by have := hws.st.cell 0 rfl; rw [hf] at this; exact this
          have u3 : wr.cell? ⟨g + 1, 3, none⟩ = some (.int .i64 x.x) := hws.st.cell 3 rfl
          have HW5 := hide hws
          obtain ⟨m, hm⟩ : ∃ m, bits BinOp.and .i64 x.x 15 = m := ⟨_, rfl⟩
          have eR : sR L x = m := by unfold sR; rw [hrd, if_pos rfl]; exact hm
          have eE : sE L x = m := by unfold sE; rw [if_neg (by omega), if_neg (by simp [HN0.out]), eR]
          obtain ⟨fr, Rr⟩ := HW5.out.res
          clear hws
          by_cases hm0 : m = 0
          · have eL : sL L x = LL := by unfold sL; rw [eE, if_pos hm0, hrd]
            obtain ⟨y, hy⟩ : ∃ y, N[f]? = some y := ⟨N[f]'(by omega), List.getElem?_eq_getElem _⟩
            have hyb := hNb y (List.mem_of_getElem? hy)
            have eN : sN L N x = N.set f (y + 1) := by unfold sN; rw [eE, if_pos hm0, hft, List.getD_eq_getElem?_getD, hy]; rfl
            subst hm0
            have cy : wr.cell? ⟨g + 3, 576 + f, none⟩ = some (.int .u64 y) := by
              have := HW5.out.nx.cell (576 + f) (by omega)
              rw [pf_nonce, List.getD_eq_getElem?_getD, hy] at this
              exact this
            have fz : wr.frozen? ⟨g + 3, 576 + f, none⟩ = false := HW5.out.nx.fr _
            have hwy : IntKind.u64.wrap (y + 1) = y + 1 := by rw [IntKind.wrap_u64]; omega
            obtain ⟨w7, hw7⟩ : ∃ w7, wr.setCell ⟨g + 3, 576 + f, none⟩ (.int .u64 (y + 1)) = w7 := ⟨_, rfl⟩
            have hf16 : f < 16 := by omega
            have hf1 : (f : Int) < 16 := by omega
            have N7 : Hid (URow w7 (g + 3) 592 (pf LL (N.set f (y + 1)))) := by
              rw [← hw7]
              exact hide ((HW5.out.nx.set (576 + f) (by omega) (y + 1)).congr fun j hj => (pf_set LL hN hf16 (y + 1) j hj).symm)
            have R7 : Hid (URow w7 (g + 2) 592 fr) := by rw [← hw7]; exact hide (Rr.other (by simp) _)
            obtain ⟨w8, hw8⟩ : ∃ w8, w7.setCells (g + 2) 0 (rowU 592 (pf LL (N.set f (y + 1)))) = w8 := ⟨_, rfl⟩
            have R8 : Hid (URow w8 (g + 2) 592 (pf LL (N.set f (y + 1))) ∧ Below w.heap.size w w8) := by
              rw [← hw8]
              refine hide ⟨R7.out.stored _, setCells_below ?_ (by rw [hg]; omega) _ _⟩
              rw [← hw7]
              exact HW5.out.be.setCell (by show w.heap.size ≤ g + 3; omega) _
            have HDN : Hid (WDone w L N x (.returned (.tuple #[pv LL (N.set f (y + 1)), .int .i64 0])) w8) := by unfold WDone; rw [eE, eL, eN]; exact hide ⟨rfl, R8.out.2⟩
            clear eE eL eN eR hrd
            go_wp2_with (first | (refine wpList_load_mid rfl 37 _ rfl (g + 3) 0 rfl (rowU 592 (pf LL (N.set f (y + 1)))) _ ?hr Tryz.underlying37 rfl (info_pv _) ?_; (case hr => exact N7.out.range)) | (refine wpList_store_mid rfl 37 _ _ rfl (g + 2) 0 (rowU 592 (pf LL (N.set f (y + 1)))).toArray rfl rfl ?hr (info_pvA _) (rowU_oneA _ _) ?_; (case hr => exact R7.out.thereA _); try simp only [List.toList_toArray]; try rw [hw8]))
            refine bodyPost_ret (v := .tuple #[pv LL (N.set f (y + 1)), .int .i64 0]) ?_ rfl HDN.out
            have hlv := run_loadVar_mid (P := Tryz.prog) _ _ _ _ _ _ R8.out.1.range Tryz.underlying37 rfl (info_pv _)
            exact results_two Tryz.results11 rfl rfl hlv
          · have eL : sL L x = L := by unfold sL; rw [eE, if_neg hm0]
            have eN : sN L N x = N := by unfold sN; rw [eE, if_neg hm0]
            have HDN : Hid (∀ w8, Below w.heap.size w w8 → WDone w L N x (.returned (.tuple #[pv L N, .int .i64 m])) w8) := fun w8 hb => by unfold WDone; rw [eE, eL, eN]; exact ⟨rfl, hb⟩
            clear eE eL eN eR hrd
            go_wp2
            have X : Hid (WS w wr.drew g L N x ad cd LL) := hide HW5.out.drew
            refine wp_region_held_drew (S := fun w1 => URow w1 g 592 (pf L N) ∧ VRow w1 (g + 1) (stV x ad cd)) (by kernel_rfl) ⟨X.out.old, X.out.st⟩ (fun _ => ?_)
            generalize wr.drew = w7 at *
            refine tk0 (by kernel_rfl) (by kernel_rfl) (by kernel_rfl) (fun _ _ _ h => h) ⟨X.out.old, X.out.st⟩ (yieldsIf_load_mid (by rfl) _ _ rfl (g) (0) rfl (rowU 592 (pf L N)) _ (fun _ hw => hw.1.range) Tryz.underlying37 rfl (info_pv _)) ?_
            simp only [Act.put, List.setIfInBounds_toArray, List.set_cons_zero, List.set_cons_succ]
            refine tk1 (v := .pointer (some ⟨g + 1, 3, none⟩)) (by kernel_rfl) (by kernel_rfl) (by kernel_rfl) (fun _ _ _ h => h) ⟨X.out.old, X.out.st⟩ (Or.inl ⟨by rfl, fun w hw => by go_simp; try (with_reducible rfl)⟩) ?_
            simp only [Act.put, List.setIfInBounds_toArray, List.set_cons_zero, List.set_cons_succ]
            refine tk2 (v := .int .i64 x.x) (by kernel_rfl) (by kernel_rfl) (by kernel_rfl) (fun _ _ _ h => h) ⟨X.out.old, X.out.st⟩ (Or.inl ⟨by rfl, fun w hw => by have c := hw.2.cell 3 rfl; go_simp; try (with_reducible rfl)⟩) ?_
            simp only [Act.put, List.setIfInBounds_toArray, List.set_cons_zero, List.set_cons_succ]
            refine tk3 (v := .int .i64 m) (by kernel_rfl) (by kernel_rfl) (by kernel_rfl) (fun _ _ _ h => h) ⟨X.out.old, X.out.st⟩ (Or.inl ⟨by rfl, fun w hw => by go_simp; try rw [hm]; try (with_reducible rfl)⟩) ?_
            simp only [Act.put, List.setIfInBounds_toArray, List.set_cons_zero, List.set_cons_succ]
            refine wpAnyH_ready (rs := [4]) (by kernel_rfl) (by simp) ?_
            refine rd4 (fun K hK => ?_) AllReadyH.nil
            rw [if_pos (by rfl)]
            obtain ⟨fr7, Rr7⟩ := X.out.res
            refine wp_store_mid _ _ _ rfl (g + 2) 0 (rowU 592 (pf L N)).toArray rfl rfl (Rr7.thereA _) (info_pvA _) (rowU_oneA _ _) ?_
            obtain ⟨w8, hw8⟩ : ∃ w8, w7.setCells (g + 2) 0 (rowU 592 (pf L N)) = w8 := ⟨_, rfl⟩
            have R8 : Hid (URow w8 (g + 2) 592 (pf L N) ∧ Below w.heap.size w w8) := by rw [← hw8]; exact hide ⟨Rr7.stored _, setCells_below X.out.be (by rw [hg]; omega) _ _⟩
            have hX8 : URow w8 g 592 (pf L N) ∧ VRow w8 (g + 1) (stV x ad cd) := by rw [← hw8]; exact ⟨X.out.old.setO (by omega) _, X.out.st.setO (by omega) _⟩
            rw [show (rowU 592 (pf L N)).toArray.toList = rowU 592 (pf L N) from List.toList_toArray, hw8]
            clear hw8
            refine hK.out _ _ hX8 (fun _ => ?_)
            clear hK K
            refine tk5 (v := .int .i64 m) (by kernel_rfl) (by kernel_rfl) (by kernel_rfl) (fun _ _ _ h => h) hX8 (Or.inl ⟨by rfl, fun w hw => by go_simp; try (with_reducible rfl)⟩) ?_
            simp only [Act.put, List.setIfInBounds_toArray, List.set_cons_zero, List.set_cons_succ]
            refine wpAnyH_done (by kernel_rfl) ?_ _
            go_wp2
            refine bodyPost_ret (v := .tuple #[pv L N, .int .i64 m]) ?_ rfl (HDN.out _ R8.out.2)
            have hlv := run_loadVar_mid (P := Tryz.prog) _ _ _ _ _ _ R8.out.1.range Tryz.underlying37 rfl (info_pv _)
            exact results_two Tryz.results11 rfl rfl hlv
    · have eE : sE L x = 9 := by unfold sE; rw [if_neg (by omega), if_pos hn]
      have eL : sL L x = L := by unfold sL; rw [eE, if_neg (by omega)]
      have eN : sN L N x = N := by unfold sN; rw [eE, if_neg (by omega)]
      unfold WDone
      rw [eE, eL, eN]
      go_enter Tryz.func11, Tryz.ntmps11
      go_wp2_with (first | (refine wpList_load_mid rfl 37 _ rfl g 0 rfl (rowU 592 (pf L N)) _ ?hr Tryz.underlying37 rfl (info_pv _) ?_; (case hr => exact HO.out.range)) | (refine wpList_store_mid rfl 37 _ _ rfl (g + 2) 0 (rowU 592 (pf L N)).toArray rfl rfl ?hr (info_pvA _) (rowU_oneA _ _) ?_; (case hr => exact HR.out.thereA _); try simp only [List.toList_toArray]; try rw [hw3]))
      refine bodyPost_ret (v := .tuple #[pv L N, .int .i64 9]) ?_ rfl ⟨rfl, R3.out.2⟩
      have hlv := run_loadVar_mid (P := Tryz.prog) _ _ _ _ _ _ R3.out.1.range Tryz.underlying37 rfl (info_pv _)
      exact results_two Tryz.results11 rfl rfl hlv
end Go.Proofs.YtncnilplmklccaaGreat
