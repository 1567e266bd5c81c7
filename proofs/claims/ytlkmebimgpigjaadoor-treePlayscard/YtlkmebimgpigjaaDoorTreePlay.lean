/- The contract of sponsionlaw10.play over this translation (written by gen-treeplay.py). -/
import Derived.Test.YtlkmebimgpigjaaDoorTreePl
namespace Go.Proofs.YtlkmebimgpigjaaDoor
open Go.RowKit Go.Lib
attribute [local go_sem] setCell_drewN alloc_drewN

set_option maxRecDepth 100000 in
set_option maxHeartbeats 16000000 in
theorem play_any {w0 w : World} {gt0 d : Nat} {S0 : Nat → Prop} (hd : d ≤ 32) (hT : Tr w gt0 S0 d []) (hS : ∀ k, S0 k → w0.heap.size ≤ k) (hb : Below w0.heap.size w0 w) (xo : Option Addr) (xcap : Nat) (xs : List Ac) (hx : Acts w0 xo xs) (hok : ∀ x ∈ xs, Ac.Ok x) (hl : xs.length ≤ 40) (ht : Tab w0 1) :
    Calls Tryd.prog 9 #[.pointer (some ⟨gt0, 0, none⟩), .int .i64 d, .slice xo xs.length xcap] w fun e w' => ∃ gt ao cap L gx, e = .returned (.tuple #[.pointer (some ⟨gt, 0, none⟩), .slice ao (List.length L) cap, .bool true]) ∧ PL w0 w' gt d L ao cap L gx ∧ L.length ≤ xs.length := by
  have HT := hide ht; have HX := hide hx; have HOK := hide hok; have HD := hide hd
  have hli : (xs.length : Int) ≤ 40 := by omega
  have Q0 : Hid (PL w0 w gt0 d [] none 0 [] 1) := ⟨⟨S0, hT, fun k hk => ⟨hS k hk, fun e => by have := ht.1; have := hS k hk; omega, by simp [blk]⟩⟩, Lv.nil w, Nat.lt_of_lt_of_le ht.1 hb.size, hb⟩
  clear ht hx hok hT hS hb
  go_enter Tryd.func9, Tryd.ntmps9
  go_wp2
  go_loopg [0, 9, 19] xs.length (fun gk t9 lvs t wr => ∃ (k gt : Nat) (ao : Option Addr) (cap : Nat) (L : List Hs) (gx : Nat), gk + k = xs.length ∧ t = .int .i64 k ∧ (t9 = .pointer (some ⟨gt, 0, none⟩) ∧ lvs = .slice ao L.length cap) ∧ L.length ≤ k ∧ PL w0 wr gt d L ao cap L gx)
  case atStart => exact ⟨0, gt0, none, 0, [], _, by omega, rfl, ⟨rfl, rfl⟩, Nat.le_refl _, Q0.out⟩
  case round =>
    obtain ⟨k, gt, ao, cap, L, gx0, hk, rfl, ⟨rfl, rfl⟩, hLk, hq⟩ := hrel
    clear Q0
    have Q := hide hq; have HK := hide hk; have HLK := hide hLk
    clear hq hk hLk
    by_cases hlt : k < xs.length
    · have hki : (k : Int) < (xs.length : Int) := by omega
      obtain ⟨x, hx⟩ : ∃ x, xs[k]? = some x := ⟨xs[k], by simp [hlt]⟩
      obtain ⟨b, off, rfl, hra⟩ := (HX.out.below Q.out.below).get hx
      have HRA := hide hra
      obtain ⟨hkk, hho, hnn⟩ := HOK.out x (List.mem_of_getElem? hx)
      obtain ⟨k0, k1⟩ := hkk
      obtain ⟨n0, n1⟩ := hnn
      have HHO := hide hho
      have HLL : Hid (L.length ≤ 40) := by show _ ≤ _; have := HLK.out; omega
      clear hra hx hho
      go_wp2_with (first
        | refine wpList_load_mid rfl 56 _ rfl b (off + k * 34) rfl (acL x) _ HRA.out Tryd.underlying56 rfl (info_ac _) ?_
        | refine wpList_store_stop rfl 56 _ _ rfl wr.heap.size 0 (acL x) rfl rfl (act_there wr x _ (by rfl) _) (info_acA x) (all_oneCell_toArray (acL_one x)) ?_)
      intro w5 hw5
      have HA : Hid (Ab w5 wr.heap.size x ∧ Below wr.heap.size wr w5) := by
        show _ ∧ _
        rw [hw5.out]
        exact Ab.new wr x _ (by rfl) _
      replace Q : Hid (PL w0 w5 gt d L ao cap L wr.heap.size) := Q.out.box HA.out.2 HA.out.1.lt
      have BX := hide HA.out.1
      clear hw5 HA
      generalize wr.heap.size = gx at *
      obtain ⟨xk, h, xn⟩ := x
      have hck : w5.cell? ⟨gx, 0, none⟩ = some (.int .u8 xk) := BX.out.k
      have hcn : w5.cell? ⟨gx, 33, none⟩ = some (.int .u64 xn) := BX.out.n
      simp only [] at k0 k1 n0 n1
      obtain ⟨p, hp⟩ : ∃ p : Int, ((2 ^ d : Nat) : Int) = p := ⟨_, rfl⟩
      have HP := hide hp
      have hLi : (L.length : Int) ≤ 40 := by have := HLL.out; omega
      have HLE : Hid (L.length ≤ 2 ^ d) := by obtain ⟨S, s1, _⟩ := Q.out.tree; exact s1.len
      rcases (by omega : xk % 4 = 0 ∨ xk % 4 = 1 ∨ xk % 4 = 2 ∨ xk % 4 = 3) with hr | hr | hr | hr
      · by_cases hfull : L.length = 2 ^ d
        · have hpf : (L.length : Int) = p := by rw [← hp, hfull]
          have HFU := hide hfull
          clear hp hfull
          go_wp2_with (first | refine wpList_load_mid rfl 32 _ rfl gx 1 rfl (rowV 32 h) _ BX.out.h Tryd.underlying32 rfl (info_hash32 _) ?_)
          refine (Q.out.full BX.out HFU.out).mono ?_
          rintro e w6 ⟨rfl, hq, hbx⟩
          replace Q := hide hq
          replace BX := hide hbx
          clear hq hbx hck hcn
          go_wp2_with (go_at_call 15; refine (places0 d HD.out).mono ?_; rintro e7 w7 ⟨rfl, hw7⟩; have hw8 := hw7.symm; clear hw7; subst hw8; rw [HP.out])
          go_roundg (xs.length - k - 1)
          case measure => have := HK.out; omega
          case rel => exact ⟨k + 1, gt, ao, cap, L, gx, by omega, by go_num, ⟨rfl, rfl⟩, by have := HLK.out; omega, Q.out⟩
        · have hltp : (L.length : Int) < p := by have := HLE.out; omega
          have hnep : ((L.length : Int) == p) = false := by simp; omega
          clear hp
          go_wp2_with (first | refine wpList_load_mid rfl 32 _ rfl gx 1 rfl (rowV 32 h) _ BX.out.h Tryd.underlying32 rfl (info_hash32 _) ?_)
          refine (Q.out.app BX.out HHO.out (by have := HLE.out; omega) (by have := HLL.out; omega) HT.out).mono ?_
          rintro e w6 ⟨rfl, hq, hbx⟩
          replace Q := hide hq
          replace BX := hide hbx
          clear hq hbx hck hcn
          go_wp2_with (go_at_call 15; refine (places0 d HD.out).mono ?_; rintro e7 w7 ⟨rfl, hw7⟩; have hw8 := hw7.symm; clear hw7; subst hw8; rw [HP.out])
          have X : Hid (Below w6.drew.heap.size w6.drew w6.drew) := bMe _
          have QB := hide (Q.out.after (bMe w6).drew)
          have BB := hide (BX.out.below (bMe w6).drew)
          clear Q BX
          obtain ⟨wd, hwd⟩ : ∃ wd, w6.drew = wd := ⟨_, rfl⟩
          rw [hwd] at X QB BB
          refine wp_region_held_drew (S := fun w' => Below wd.heap.size wd w') (by kernel_rfl) (by rw [hwd]; exact X.out) (fun _ => ?_)
          rw [hwd]
          clear hwd
          refine tk1 (v := .slice ao L.length cap) (by kernel_rfl) (by kernel_rfl) (by kernel_rfl) (fun _ _ _ h => h) X.out (Or.inl ⟨by rfl, fun w hw => by go_simp; try (with_reducible rfl)⟩) ?_
          simp only [Act.put, List.setIfInBounds_toArray, List.set_cons_zero, List.set_cons_succ]
          refine tk3 (v := .pointer (some ⟨gx, 1, none⟩)) (by kernel_rfl) (by kernel_rfl) (by kernel_rfl) (fun _ _ _ h => h) X.out (Or.inl ⟨by rfl, fun w hw => by go_simp; try (with_reducible rfl)⟩) ?_
          simp only [Act.put, List.setIfInBounds_toArray, List.set_cons_zero, List.set_cons_succ]
          refine tk4 (by kernel_rfl) (by kernel_rfl) (by kernel_rfl) (fun _ _ _ h => h) X.out (yieldsIf_load_mid (by rfl) _ _ rfl gx 1 rfl (rowV 32 h) _ (fun _ hw => (BB.out.below hw).h) Tryd.underlying32 rfl (info_hash32 _)) ?_
          simp only [Act.put, List.setIfInBounds_toArray, List.set_cons_zero, List.set_cons_succ]
          refine wpAnyH_ready (rs := [0, 5]) (by kernel_rfl) (by simp) ?_
          refine rd0 (fun K hK => ?_) (rd5 (fun K hK => ?_) AllReadyH.nil)
          · skip
            go_simp
            have E0 := hide (HR.empty wd (g := wd.heap.size) rfl)
            have G0 : Hid (wd.heap.size ≤ wd.heap.size) := X.out.size
            replace X : Hid (Below wd.heap.size wd (wd.alloc (.cells #[] 32))) := bAl X.out
            have F0 : Hid (Below wd.heap.size wd (wd.alloc (.cells #[] 32))) := bAl (bMe wd)
            have GS : Hid (wd.heap.size < (wd.alloc (.cells #[] 32)).heap.size) := by show _ < _; simp
            refine hK.out _ _ X.out (fun _ => ?_)
            clear hK K
            obtain ⟨wa, hwa⟩ : ∃ q, wd.alloc (.cells #[] 32) = q := ⟨_, rfl⟩
            rw [hwa] at E0 X GS F0
            rw [hwa]
            clear hwa
            refine wpAnyH_ready (rs := [2, 5]) (by kernel_rfl) (by simp) ?_
            refine rd2 (fun K hK => ?_) (rd5 (fun K hK => ?_) AllReadyH.nil)
            · skip
              refine step_app_hs rfl _ _ rfl (.slice (some ⟨wd.heap.size, 0, none⟩) 0 0) [] L ao L.length cap (by simp [Act.eval]) (by simp [Act.eval]) rfl E0.out (QB.out.lv.lies.below X.out) QB.out.lv.noc (by have := HLL.out; simp; omega) ?_
              intro v2 w12 hv2 hg2 hn2
              have XS := hide X.out.size
              replace X : Hid (Below wd.heap.size wd w12) := X.out.grown hg2 X.out.size (fun q hq => by simp [Value.ownBlock] at hq; have := G0.out; omega)
              have V2 : Hid (HR w12 v2 L) := by show HR _ _ _; simpa using hv2
              have GV : Hid (∀ b, v2.ownBlock = some b → wd.heap.size ≤ b) := fun b hb => by
                rcases hn2 b hb with q | q
                · simp [Value.ownBlock] at q; have := G0.out; omega
                · rw [q]; exact XS.out
              refine hK.out _ _ X.out (fun _ => ?_)
              clear hK K
              simp only [Act.put, List.setIfInBounds_toArray, List.set_cons_zero, List.set_cons_succ]
              refine wpAnyH_ready (rs := [5]) (by kernel_rfl) (by simp) ?_
              refine rd5 (fun K hK => ?_) AllReadyH.nil
              rw [if_pos (by rfl)]
              refine wp_build_hs _ rfl h rfl ?_
              have NB := hide (one_hs w12 h (g := w12.heap.size) rfl)
              have G5 : Hid (wd.heap.size ≤ w12.heap.size) := X.out.size
              have F5 : Hid (Below w12.heap.size w12 (w12.alloc (.cells (rowV 32 h).toArray 32))) := bAl (bMe w12)
              have GS5 : Hid (w12.heap.size < (w12.alloc (.cells (rowV 32 h).toArray 32)).heap.size) := by show _ < _; simp
              replace X : Hid (Below wd.heap.size wd (w12.alloc (.cells (rowV 32 h).toArray 32))) := bAl X.out
              refine hK.out _ _ X.out (fun _ => ?_)
              clear hK K
              simp only [Act.put, List.setIfInBounds_toArray, List.set_cons_zero, List.set_cons_succ]
              obtain ⟨wb, hwb⟩ : ∃ q, w12.alloc (.cells (rowV 32 h).toArray 32) = q := ⟨_, rfl⟩
              rw [hwb] at NB F5 X GS5
              rw [hwb]
              clear hwb
              replace V2 := hide (V2.out.below F5.out)
              refine wpAnyH_ready (rs := [6]) (by kernel_rfl) (by simp) ?_
              refine rd6 (fun K hK => ?_) AllReadyH.nil
              obtain ⟨ao2, cap2, rfl, -, -, -, -⟩ := V2.out.form
              refine step_app_hs rfl _ _ rfl (.slice ao2 L.length cap2) L [h] (some ⟨w12.heap.size, 0, none⟩) 1 1 (by simp [Act.eval]) (by simp [Act.eval]) rfl V2.out NB.out (fun e => by simp at e) (by have := HLL.out; simp; omega) ?_
              intro v3 w13 hv3 hg3 hn3
              have GL := hide X.out.size
              replace X : Hid (Below wd.heap.size wd w13) := X.out.grown hg3 X.out.size (fun q hq => GV.out q hq)
              obtain ⟨ao3, cap3, rfl, hlv, hob⟩ := Lv.row hv3
              have NF : Hid (∀ b, blk ao3 = some b → wd.heap.size ≤ b) := fun b hb => by
                rcases hn3 b (by rw [hob]; exact hb) with q | q
                · exact GV.out b q
                · rw [q]; exact GL.out
              have LV := hide hlv
              clear hv3 hg3 hn3 hlv hob
              refine hK.out _ _ X.out (fun _ => ?_)
              clear hK K
              simp only [Act.put, List.setIfInBounds_toArray, List.set_cons_zero, List.set_cons_succ]
              refine tk7 (v := .slice ao3 (L ++ [h]).length cap3) (by kernel_rfl) (by kernel_rfl) (by kernel_rfl) (fun _ _ _ h => h) X.out (Or.inl ⟨by rfl, fun w hw => by go_simp; try (with_reducible rfl)⟩) ?_
              simp only [Act.put, List.setIfInBounds_toArray, List.set_cons_zero, List.set_cons_succ]
              refine wpAnyH_done (by kernel_rfl) ?_ _
              try simp only [Act.put]
              have Q : Hid (PL w0 w13 gt d (L ++ [h]) ao3 cap3 (L ++ [h]) gx) := by
                obtain ⟨S, s1, s2⟩ := QB.out.tree
                exact ⟨⟨S, s1.below X.out, fun q hq => ⟨(s2 q hq).1, (s2 q hq).2.1, fun e => Nat.lt_irrefl _ (Nat.lt_of_lt_of_le (s1.box.low q hq) (NF.out q e))⟩⟩, LV.out, Nat.lt_of_lt_of_le QB.out.lt X.out.size, bOn QB.out.below X.out⟩
              clear QB BB X V2 GV NB NF LV GL
              go_wp2_with (go_at_call 18; refine Q.out.len.mono ?_; rintro e9 w9 ⟨rfl, hw9⟩; have hw8 := hw9.symm; clear hw9; subst hw8)
              go_roundg (xs.length - k - 1)
              case measure => have := HK.out; omega
              case rel => exact ⟨k + 1, gt, ao3, cap3, L ++ [h], gx, by omega, by go_num, ⟨rfl, by rw [List.length_append]; rfl⟩, by have := HLK.out; rw [List.length_append]; simp; omega, Q.out⟩
            · skip
              rw [if_pos (by rfl)]
              refine wp_build_hs _ rfl h rfl ?_
              have NB := hide (one_hs wa h (g := wa.heap.size) rfl)
              have G5 : Hid (wd.heap.size ≤ wa.heap.size) := X.out.size
              have F5 : Hid (Below wa.heap.size wa (wa.alloc (.cells (rowV 32 h).toArray 32))) := bAl (bMe wa)
              have GS5 : Hid (wa.heap.size < (wa.alloc (.cells (rowV 32 h).toArray 32)).heap.size) := by show _ < _; simp
              replace X : Hid (Below wd.heap.size wd (wa.alloc (.cells (rowV 32 h).toArray 32))) := bAl X.out
              refine hK.out _ _ X.out (fun _ => ?_)
              clear hK K
              simp only [Act.put, List.setIfInBounds_toArray, List.set_cons_zero, List.set_cons_succ]
              obtain ⟨wb, hwb⟩ : ∃ q, wa.alloc (.cells (rowV 32 h).toArray 32) = q := ⟨_, rfl⟩
              rw [hwb] at NB F5 X GS5
              rw [hwb]
              clear hwb
              replace E0 := hide (E0.out.below F5.out)
              have HNE : Hid (wa.heap.size ≠ wd.heap.size) := Nat.ne_of_gt GS.out
              refine wpAnyH_ready (rs := [2]) (by kernel_rfl) (by simp) ?_
              refine rd2 (fun K hK => ?_) AllReadyH.nil
              refine step_app_hs rfl _ _ rfl (.slice (some ⟨wd.heap.size, 0, none⟩) 0 0) [] L ao L.length cap (by simp [Act.eval]) (by simp [Act.eval]) rfl E0.out (QB.out.lv.lies.below X.out) QB.out.lv.noc (by have := HLL.out; simp; omega) ?_
              intro v2 w12 hv2 hg2 hn2
              have XS := hide X.out.size
              replace X : Hid (Below wd.heap.size wd w12) := X.out.grown hg2 X.out.size (fun q hq => by simp [Value.ownBlock] at hq; have := G0.out; omega)
              have V2 : Hid (HR w12 v2 L) := by show HR _ _ _; simpa using hv2
              have GV : Hid (∀ b, v2.ownBlock = some b → wd.heap.size ≤ b) := fun b hb => by
                rcases hn2 b hb with q | q
                · simp [Value.ownBlock] at q; have := G0.out; omega
                · rw [q]; exact XS.out
              replace NB := hide (NB.out.of hg2.size (fun q hq hl => hg2.block q hl (fun e => by simp [Value.ownBlock, blk] at e hq; have := HNE.out; omega)))
              refine hK.out _ _ X.out (fun _ => ?_)
              clear hK K
              simp only [Act.put, List.setIfInBounds_toArray, List.set_cons_zero, List.set_cons_succ]
              refine wpAnyH_ready (rs := [6]) (by kernel_rfl) (by simp) ?_
              refine rd6 (fun K hK => ?_) AllReadyH.nil
              obtain ⟨ao2, cap2, rfl, -, -, -, -⟩ := V2.out.form
              refine step_app_hs rfl _ _ rfl (.slice ao2 L.length cap2) L [h] (some ⟨wa.heap.size, 0, none⟩) 1 1 (by simp [Act.eval]) (by simp [Act.eval]) rfl V2.out NB.out (fun e => by simp at e) (by have := HLL.out; simp; omega) ?_
              intro v3 w13 hv3 hg3 hn3
              have GL := hide X.out.size
              replace X : Hid (Below wd.heap.size wd w13) := X.out.grown hg3 X.out.size (fun q hq => GV.out q hq)
              obtain ⟨ao3, cap3, rfl, hlv, hob⟩ := Lv.row hv3
              have NF : Hid (∀ b, blk ao3 = some b → wd.heap.size ≤ b) := fun b hb => by
                rcases hn3 b (by rw [hob]; exact hb) with q | q
                · exact GV.out b q
                · rw [q]; exact GL.out
              have LV := hide hlv
              clear hv3 hg3 hn3 hlv hob
              refine hK.out _ _ X.out (fun _ => ?_)
              clear hK K
              simp only [Act.put, List.setIfInBounds_toArray, List.set_cons_zero, List.set_cons_succ]
              refine tk7 (v := .slice ao3 (L ++ [h]).length cap3) (by kernel_rfl) (by kernel_rfl) (by kernel_rfl) (fun _ _ _ h => h) X.out (Or.inl ⟨by rfl, fun w hw => by go_simp; try (with_reducible rfl)⟩) ?_
              simp only [Act.put, List.setIfInBounds_toArray, List.set_cons_zero, List.set_cons_succ]
              refine wpAnyH_done (by kernel_rfl) ?_ _
              try simp only [Act.put]
              have Q : Hid (PL w0 w13 gt d (L ++ [h]) ao3 cap3 (L ++ [h]) gx) := by
                obtain ⟨S, s1, s2⟩ := QB.out.tree
                exact ⟨⟨S, s1.below X.out, fun q hq => ⟨(s2 q hq).1, (s2 q hq).2.1, fun e => Nat.lt_irrefl _ (Nat.lt_of_lt_of_le (s1.box.low q hq) (NF.out q e))⟩⟩, LV.out, Nat.lt_of_lt_of_le QB.out.lt X.out.size, bOn QB.out.below X.out⟩
              clear QB BB X V2 GV NB NF LV GL
              go_wp2_with (go_at_call 18; refine Q.out.len.mono ?_; rintro e9 w9 ⟨rfl, hw9⟩; have hw8 := hw9.symm; clear hw9; subst hw8)
              go_roundg (xs.length - k - 1)
              case measure => have := HK.out; omega
              case rel => exact ⟨k + 1, gt, ao3, cap3, L ++ [h], gx, by omega, by go_num, ⟨rfl, by rw [List.length_append]; rfl⟩, by have := HLK.out; rw [List.length_append]; simp; omega, Q.out⟩
          · skip
            rw [if_pos (by rfl)]
            refine wp_build_hs _ rfl h rfl ?_
            have NB := hide (one_hs wd h (g := wd.heap.size) rfl)
            have G5 : Hid (wd.heap.size ≤ wd.heap.size) := X.out.size
            have F5 : Hid (Below wd.heap.size wd (wd.alloc (.cells (rowV 32 h).toArray 32))) := bAl (bMe wd)
            have GS5 : Hid (wd.heap.size < (wd.alloc (.cells (rowV 32 h).toArray 32)).heap.size) := by show _ < _; simp
            replace X : Hid (Below wd.heap.size wd (wd.alloc (.cells (rowV 32 h).toArray 32))) := bAl X.out
            refine hK.out _ _ X.out (fun _ => ?_)
            clear hK K
            simp only [Act.put, List.setIfInBounds_toArray, List.set_cons_zero, List.set_cons_succ]
            obtain ⟨wa, hwa⟩ : ∃ q, wd.alloc (.cells (rowV 32 h).toArray 32) = q := ⟨_, rfl⟩
            rw [hwa] at NB F5 X GS5
            rw [hwa]
            clear hwa
            refine wpAnyH_ready (rs := [0]) (by kernel_rfl) (by simp) ?_
            refine rd0 (fun K hK => ?_) AllReadyH.nil
            go_simp
            have E0 := hide (HR.empty wa (g := wa.heap.size) rfl)
            have G0 : Hid (wd.heap.size ≤ wa.heap.size) := X.out.size
            replace X : Hid (Below wd.heap.size wd (wa.alloc (.cells #[] 32))) := bAl X.out
            have F0 : Hid (Below wa.heap.size wa (wa.alloc (.cells #[] 32))) := bAl (bMe wa)
            have GS : Hid (wa.heap.size < (wa.alloc (.cells #[] 32)).heap.size) := by show _ < _; simp
            refine hK.out _ _ X.out (fun _ => ?_)
            clear hK K
            obtain ⟨wb, hwb⟩ : ∃ q, wa.alloc (.cells #[] 32) = q := ⟨_, rfl⟩
            rw [hwb] at E0 X GS F0
            rw [hwb]
            clear hwb
            replace NB := hide (NB.out.below F0.out)
            have HNE : Hid (wd.heap.size ≠ wa.heap.size) := Nat.ne_of_lt GS5.out
            refine wpAnyH_ready (rs := [2]) (by kernel_rfl) (by simp) ?_
            refine rd2 (fun K hK => ?_) AllReadyH.nil
            refine step_app_hs rfl _ _ rfl (.slice (some ⟨wa.heap.size, 0, none⟩) 0 0) [] L ao L.length cap (by simp [Act.eval]) (by simp [Act.eval]) rfl E0.out (QB.out.lv.lies.below X.out) QB.out.lv.noc (by have := HLL.out; simp; omega) ?_
            intro v2 w12 hv2 hg2 hn2
            have XS := hide X.out.size
            replace X : Hid (Below wd.heap.size wd w12) := X.out.grown hg2 X.out.size (fun q hq => by simp [Value.ownBlock] at hq; have := G0.out; omega)
            have V2 : Hid (HR w12 v2 L) := by show HR _ _ _; simpa using hv2
            have GV : Hid (∀ b, v2.ownBlock = some b → wd.heap.size ≤ b) := fun b hb => by
              rcases hn2 b hb with q | q
              · simp [Value.ownBlock] at q; have := G0.out; omega
              · rw [q]; exact XS.out
            replace NB := hide (NB.out.of hg2.size (fun q hq hl => hg2.block q hl (fun e => by simp [Value.ownBlock, blk] at e hq; have := HNE.out; omega)))
            refine hK.out _ _ X.out (fun _ => ?_)
            clear hK K
            simp only [Act.put, List.setIfInBounds_toArray, List.set_cons_zero, List.set_cons_succ]
            refine wpAnyH_ready (rs := [6]) (by kernel_rfl) (by simp) ?_
            refine rd6 (fun K hK => ?_) AllReadyH.nil
            obtain ⟨ao2, cap2, rfl, -, -, -, -⟩ := V2.out.form
            refine step_app_hs rfl _ _ rfl (.slice ao2 L.length cap2) L [h] (some ⟨wd.heap.size, 0, none⟩) 1 1 (by simp [Act.eval]) (by simp [Act.eval]) rfl V2.out NB.out (fun e => by simp at e) (by have := HLL.out; simp; omega) ?_
            intro v3 w13 hv3 hg3 hn3
            have GL := hide X.out.size
            replace X : Hid (Below wd.heap.size wd w13) := X.out.grown hg3 X.out.size (fun q hq => GV.out q hq)
            obtain ⟨ao3, cap3, rfl, hlv, hob⟩ := Lv.row hv3
            have NF : Hid (∀ b, blk ao3 = some b → wd.heap.size ≤ b) := fun b hb => by
              rcases hn3 b (by rw [hob]; exact hb) with q | q
              · exact GV.out b q
              · rw [q]; exact GL.out
            have LV := hide hlv
            clear hv3 hg3 hn3 hlv hob
            refine hK.out _ _ X.out (fun _ => ?_)
            clear hK K
            simp only [Act.put, List.setIfInBounds_toArray, List.set_cons_zero, List.set_cons_succ]
            refine tk7 (v := .slice ao3 (L ++ [h]).length cap3) (by kernel_rfl) (by kernel_rfl) (by kernel_rfl) (fun _ _ _ h => h) X.out (Or.inl ⟨by rfl, fun w hw => by go_simp; try (with_reducible rfl)⟩) ?_
            simp only [Act.put, List.setIfInBounds_toArray, List.set_cons_zero, List.set_cons_succ]
            refine wpAnyH_done (by kernel_rfl) ?_ _
            try simp only [Act.put]
            have Q : Hid (PL w0 w13 gt d (L ++ [h]) ao3 cap3 (L ++ [h]) gx) := by
              obtain ⟨S, s1, s2⟩ := QB.out.tree
              exact ⟨⟨S, s1.below X.out, fun q hq => ⟨(s2 q hq).1, (s2 q hq).2.1, fun e => Nat.lt_irrefl _ (Nat.lt_of_lt_of_le (s1.box.low q hq) (NF.out q e))⟩⟩, LV.out, Nat.lt_of_lt_of_le QB.out.lt X.out.size, bOn QB.out.below X.out⟩
            clear QB BB X V2 GV NB NF LV GL
            go_wp2_with (go_at_call 18; refine Q.out.len.mono ?_; rintro e9 w9 ⟨rfl, hw9⟩; have hw8 := hw9.symm; clear hw9; subst hw8)
            go_roundg (xs.length - k - 1)
            case measure => have := HK.out; omega
            case rel => exact ⟨k + 1, gt, ao3, cap3, L ++ [h], gx, by omega, by go_num, ⟨rfl, by rw [List.length_append]; rfl⟩, by have := HLK.out; rw [List.length_append]; simp; omega, Q.out⟩
      · by_cases hcan : xn ≤ (L.length : Int)
        · obtain ⟨n, hn⟩ : ∃ n : Nat, xn = (n : Int) := ⟨xn.toNat, by omega⟩
          subst hn
          have HNL : Hid (n ≤ L.length) := by show _ ≤ _; omega
          have HTL : Hid ((L.take n).length = n) := by show _ = _; rw [List.length_take]; have := HNL.out; omega
          clear hp
          go_wp2_with fail
          refine (Q.out.cut BX.out n HNL.out).mono ?_
          rintro e w6 ⟨rfl, hq, hbx⟩
          replace Q : Hid (PL w0 w6 gt d (L.take n) ao cap (L.take n) gx) := ⟨hq.tree, hq.lv.take n, hq.lt, hq.below⟩
          have hcn6 : w6.cell? ⟨gx, 33, none⟩ = some (.int .u64 n) := hbx.n
          obtain ⟨hle, hnoc, hform⟩ : L.length ≤ cap ∧ (ao = none → cap = 0) ∧ (ao = none ∨ ∃ b off, ao = some ⟨b, off, none⟩) := ⟨hq.lv.le, hq.lv.noc, hq.lv.form⟩
          have hncap : n ≤ cap := by have := HNL.out; omega
          have hncapi : (n : Int) ≤ (cap : Int) := by omega
          clear hq hbx hck hcn
          rcases hform with rfl | ⟨b2, off2, rfl⟩
          · obtain rfl := hnoc rfl
            obtain rfl : n = 0 := by omega
            have hL0 : L.length = 0 := by omega
            go_wp2_with (go_at_call 18; refine Q.out.len.mono ?_; rintro e9 w9 ⟨rfl, hw9⟩; have hw8 := hw9.symm; clear hw9; subst hw8; rw [HTL.out])
            go_roundg (xs.length - k - 1)
            case measure => have := HK.out; omega
            case rel => exact ⟨k + 1, gt, _, _, _, gx, by omega, by go_num, ⟨rfl, by rw [HTL.out]⟩, by rw [HTL.out]; have := HLK.out; have := HNL.out; omega, Q.out⟩
          · clear hnoc
            by_cases hc0 : cap = 0
            · subst hc0
              obtain rfl : n = 0 := by omega
              have hL0 : L.length = 0 := by omega
              go_wp2_with (go_at_call 18; refine Q.out.len.mono ?_; rintro e9 w9 ⟨rfl, hw9⟩; have hw8 := hw9.symm; clear hw9; subst hw8; rw [HTL.out])
              go_roundg (xs.length - k - 1)
              case measure => have := HK.out; omega
              case rel => exact ⟨k + 1, gt, _, _, _, gx, by omega, by go_num, ⟨rfl, by rw [HTL.out]⟩, by rw [HTL.out]; have := HLK.out; have := HNL.out; omega, Q.out⟩
            · go_wp2_with (go_at_call 18; refine Q.out.len.mono ?_; rintro e9 w9 ⟨rfl, hw9⟩; have hw8 := hw9.symm; clear hw9; subst hw8; rw [HTL.out])
              go_roundg (xs.length - k - 1)
              case measure => have := HK.out; omega
              case rel => exact ⟨k + 1, gt, _, _, _, gx, by omega, by go_num, ⟨rfl, by rw [HTL.out]⟩, by rw [HTL.out]; have := HLK.out; have := HNL.out; omega, Q.out⟩
        · have hno : (L.length : Int) < xn := by omega
          clear hp
          go_wp2_with fail
          refine (Q.out.cutno xn hno).mono ?_
          rintro e w6 ⟨rfl, hw6⟩
          have hw7 := hw6.symm
          clear hw6
          subst hw7
          go_wp2_with (go_at_call 18; refine Q.out.len.mono ?_; rintro e9 w9 ⟨rfl, hw9⟩; have hw8 := hw9.symm; clear hw9; subst hw8)
          go_roundg (xs.length - k - 1)
          case measure => have := HK.out; omega
          case rel => exact ⟨k + 1, gt, ao, cap, L, gx, by omega, by go_num, ⟨rfl, rfl⟩, by have := HLK.out; omega, Q.out⟩
      · clear hp
        go_wp2_with fail
        refine (Q.out.copy BX.out).mono ?_
        rintro e w6 ⟨g2, rfl, hq⟩
        have C := hide hq
        clear hq hck hcn Q BX
        go_wp2_with (refine wpList_load_mid rfl 32 _ rfl gx 1 rfl (rowV 32 h) _ C.out.box.h Tryd.underlying32 rfl (info_hash32 _) ?_)
        refine (C.out.app2 HHO.out (by have := HLL.out; omega) HT.out).mono ?_
        rintro e w7 ⟨a1, b1, L2, rfl, hq⟩
        replace C := hide hq
        clear hq
        go_wp2_with fail
        refine C.out.cut2.mono ?_
        rintro e w8 ⟨rfl, hq⟩
        replace C := hide hq
        clear hq
        go_wp2_with (refine wpList_load_mid rfl 32 _ rfl gx 1 rfl (rowV 32 h) _ C.out.box.h Tryd.underlying32 rfl (info_hash32 _) ?_)
        refine (C.out.app2 HHO.out (by simp) HT.out).mono ?_
        rintro e w9 ⟨a2, b2, L3, rfl, hq⟩
        have Q := hide hq.back
        clear hq C
        go_wp2_with (go_at_call 18; refine Q.out.len.mono ?_; rintro e9 w9 ⟨rfl, hw9⟩; have hw8 := hw9.symm; clear hw9; subst hw8)
        go_roundg (xs.length - k - 1)
        case measure => have := HK.out; omega
        case rel => exact ⟨k + 1, gt, ao, cap, L, gx, by omega, by go_num, ⟨rfl, rfl⟩, by have := HLK.out; omega, Q.out⟩
      · clear hp
        go_wp2_with fail
        refine (Q.out.copy BX.out).mono ?_
        rintro e w6 ⟨g2, rfl, hq⟩
        have C := hide hq
        clear hq hck hcn Q BX
        go_wp2_with (refine wpList_load_mid rfl 32 _ rfl gx 1 rfl (rowV 32 h) _ C.out.box.h Tryd.underlying32 rfl (info_hash32 _) ?_)
        refine (C.out.app1 HHO.out (by have := HLL.out; omega) HT.out).mono ?_
        rintro e w7 ⟨a1, b1, rfl, hq⟩
        have Q := hide hq
        clear hq C
        go_wp2_with (go_at_call 18; refine Q.out.len.mono ?_; rintro e9 w9 ⟨rfl, hw9⟩; have hw8 := hw9.symm; clear hw9; subst hw8)
        go_roundg (xs.length - k - 1)
        case measure => have := HK.out; omega
        case rel => exact ⟨k + 1, g2, ao, cap, L, gx, by omega, by go_num, ⟨rfl, rfl⟩, by have := HLK.out; omega, Q.out⟩
    · obtain rfl : k = xs.length := by have := HK.out; omega
      go_wp2
      refine bodyPost_ret (v := .tuple #[.pointer (some ⟨gt, 0, none⟩), .slice ao L.length cap, .bool true]) (by simp [results, Tryd.results9, go_sem]) rfl ⟨gt, ao, cap, L, gx0, rfl, Q.out, HLK.out⟩
end Go.Proofs.YtlkmebimgpigjaaDoor
