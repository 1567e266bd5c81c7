/- The contract of domain.Text over this translation. -/
import Derived.Test.YtjkhboejhcbdpaaDoorPackMore
import Derived.Test.YtjkhboejhcbdpaaDoorPrts
namespace Go.Proofs.YtjkhboejhcbdpaaDoor
open Go.RowKit Go.Lib
attribute [local go_sem] setCell_drewN alloc_drewN

/-- A part in a text: how many bytes it has, and these. -/
def ptext (l : List Int) : List Int := be (l.length : Int) 4 ++ l
/-- Parts in a text, one behind the other. -/
def ptexts (ls : List (List Int)) : List Int := (ls.map ptext).flatten
/-- The text of a tag and some parts. -/
def dtext (tag : Int) (ls : List (List Int)) : List Int := be tag 1 ++ ptexts ls
/-- The bytes of parts. -/
def lsOf (ps : List Prt) : List (List Int) := ps.map (·.l)
theorem ptexts_snoc (ls : List (List Int)) (l : List Int) : ptexts (ls ++ [l]) = ptexts ls ++ ptext l := by
  unfold ptexts; simp
theorem ptexts_app (ls ms : List (List Int)) : ptexts (ls ++ ms) = ptexts ls ++ ptexts ms := by
  unfold ptexts; simp
theorem ptext_length (l : List Int) : (ptext l).length = 4 + l.length := by
  unfold ptext; rw [List.length_append, be_length]
theorem be_byt (x : Int) (k : Nat) : Byt (be x k) := pre_byt x k k
theorem ptext_byt {l : List Int} (h : Byt l) : Byt (ptext l) := (be_byt _ _).app h
theorem ptexts_byt {ls : List (List Int)} (h : ∀ l ∈ ls, Byt l) : Byt (ptexts ls) := by
  intro x hx
  obtain ⟨m, hm, hx⟩ := List.mem_flatten.1 hx
  obtain ⟨l, hl, rfl⟩ := List.mem_map.1 hm
  exact ptext_byt (h l hl) x hx
theorem dtext_byt {tag : Int} {ls : List (List Int)} (h : ∀ l ∈ ls, Byt l) : Byt (dtext tag ls) := (be_byt _ _).app (ptexts_byt h)
theorem lsOf_take (ps : List Prt) (k : Nat) (p : Prt) (h : ps[k]? = some p) : lsOf (ps.take (k + 1)) = lsOf (ps.take k) ++ [p.l] := by
  unfold lsOf
  rw [List.take_add_one, h]
  simp
theorem dtext_take (tag : Int) (ps : List Prt) (k : Nat) (p : Prt) (h : ps[k]? = some p) : dtext tag (lsOf (ps.take (k + 1))) = (dtext tag (lsOf (ps.take k)) ++ be (p.l.length : Int) 4) ++ p.l := by
  unfold dtext
  rw [lsOf_take ps k p h, ptexts_snoc]
  unfold ptext
  simp
theorem dtext_split (tag : Int) (ps : List Prt) (k : Nat) : dtext tag (lsOf ps) = dtext tag (lsOf (ps.take k)) ++ ptexts (lsOf (ps.drop k)) := by
  unfold dtext
  rw [List.append_assoc, ← ptexts_app]
  unfold lsOf
  rw [← List.map_append, List.take_append_drop]
/-- What stands while a text is written. -/
structure TW (w0 w : World) (ao : Option Addr) (cap : Nat) (l : List Int) : Prop where
  wtr : Wtr w w0.heap.size ao cap l
  below : Below w0.heap.size w0 w
theorem TW.wrote {w0 w w' : World} {ao ao' : Option Addr} {cap cap' : Nat} {l l' : List Int} (h : TW w0 w ao cap l) (hw : Wtr w' w0.heap.size ao' cap' l') (hr : Wrote w0.heap.size ao ao' w w') : TW w0 w' ao' cap' l' :=
  ⟨hw, hr.below h.below (Nat.le_refl _) (fun k hk => by have := (h.wtr.row k hk).1; omega)⟩
set_option maxHeartbeats 4000000 in
theorem text_any {w : World} (tag : Int) (ht0 : 0 ≤ tag) (ht1 : tag < 256) (ao : Option Addr) (cap : Nat) (ps : List Prt) (hp : Parts w ao ps) (hn : ∀ q ∈ ps, q.ao = none → q.cap = 0) (hlen : (dtext tag (lsOf ps)).length ≤ 900000) (hps : ps.length ≤ 900000) :
    Calls Tryd.prog 34 #[.int .u8 tag, .slice ao ps.length cap] w fun e w' => ∃ v, e = .returned v ∧ Bs w' w.heap.size v (dtext tag (lsOf ps)) ∧ Below w.heap.size w w' := by
  have HP := hide hp; have HN := hide hn; have HLEN := hide hlen
  have hpsi : (ps.length : Int) ≤ 900000 := by omega
  clear hp hn hlen
  go_enter Tryd.func34, Tryd.ntmps34
  go_wp2_with fail
  have T : Hid (TW w (w.alloc (.cells #[.slice none 0 0] 80)) none 0 []) := ⟨Wtr.new w 80, bAl (bMe w)⟩
  generalize w.alloc (.cells #[.slice none 0 0] 80) = w1 at *
  refine (u8_any T.out.wtr tag ht0 ht1 (by simp)).mono ?_
  rintro e w2 ⟨rfl, ao2, cap2, hw2, hr2⟩
  rw [List.nil_append] at hw2
  have T2 := hide (T.out.wrote hw2 hr2)
  clear hw2 hr2 T
  go_wp2
  go_loopg [12] ps.length (fun gk t wr => ∃ (k : Nat) (ao' : Option Addr) (cap' : Nat), gk + k = ps.length ∧ t = .int .i64 k ∧ TW w wr ao' cap' (dtext tag (lsOf (ps.take k))))
  case atStart => exact ⟨0, ao2, cap2, by omega, rfl, by simpa [dtext, lsOf, ptexts] using T2.out⟩
  case round =>
    clear T2
    obtain ⟨k, ao3, cap3, hk, rfl, ht⟩ := hrel
    have T := hide ht; have HK := hide hk
    clear ht hk
    by_cases hlt : k < ps.length
    · have hki : (k : Int) < (ps.length : Int) := by omega
      obtain ⟨p, hp⟩ : ∃ p, ps[k]? = some p := ⟨ps[k], by simp [hlt]⟩
      have HS := hide (dtext_take tag ps k p hp)
      have hpn := HN.out p (List.mem_of_getElem? hp)
      have ck : ∃ b off, ao = some ⟨b, off, none⟩ ∧ wr.cell? ⟨b, off + k, none⟩ = some (.slice p.ao p.l.length p.cap) ∧ PtOk w p := by
        rcases HP.out with h0 | ⟨b, off, e, hl, hc⟩
        · rw [h0] at hlt; simp at hlt
        · exact ⟨b, off, e, (T.out.below.cell (p := ⟨b, off + k, none⟩) hl).trans (hc k p hp).1, (hc k p hp).2⟩
      obtain ⟨b, off, rfl, ck, hok⟩ := ck
      have hl2 : (dtext tag (lsOf (ps.take k))).length + 4 + p.l.length ≤ 900000 := by
        have h1 := HLEN.out
        rw [dtext_split tag ps (k + 1), HS.out] at h1
        simp [be_length] at h1 ⊢
        omega
      obtain ⟨pa, pc, pl⟩ := p
      simp only [] at ck hpn HS hl2
      have HPN := hide hpn; have HA := hide hok.lies
      have hpl : (pl.length : Int) ≤ 900000 := by omega
      clear hok hpn hp
      obtain ⟨L, hL⟩ : ∃ L, dtext tag (lsOf (ps.take k)) = L := ⟨_, rfl⟩
      rw [hL] at T HS hl2
      clear hL
      have HL2 := hide hl2
      clear hl2
      go_wp2_with fail
      refine (u32_any T.out.wtr (pl.length : Int) (by omega) (by omega) (by have := HL2.out; omega)).mono ?_
      rintro e w3 ⟨rfl, ao4, cap4, hw3, hr3⟩
      replace T := hide (T.out.wrote hw3 hr3)
      clear hw3 hr3
      go_wp2_with fail
      refine (raw_any T.out.wtr pa pc pl (HA.out.below T.out.below) HPN.out (by rw [List.length_append, be_length]; have := HL2.out; omega)).mono ?_
      rintro e w4 ⟨rfl, ao5, cap5, hw4, hr4⟩
      replace T := hide (T.out.wrote hw4 hr4)
      clear hw4 hr4
      go_wp2
      go_roundg (ps.length - k - 1)
      case measure => have := HK.out; omega
      case rel => exact ⟨k + 1, ao5, cap5, by omega, by go_num, by rw [HS.out]; exact T.out⟩
    · obtain rfl : k = ps.length := by have := HK.out; omega
      rw [List.take_length] at T
      clear HK hlt
      go_wp2_with fail
      refine (wbytes_any T.out.wtr (by have := HLEN.out; omega)).mono ?_
      rintro e w5 ⟨v, rfl, hb, hb2⟩
      have HB := hide (hb.mono T.out.below.size); have HB2 := hide (bOn T.out.below hb2)
      clear hb hb2
      go_wp2
      go_ret
      exact ⟨_, rfl, HB.out, HB2.out⟩
end Go.Proofs.YtjkhboejhcbdpaaDoor
