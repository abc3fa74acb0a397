/- The function alive, by which every law of the caches begins. -/
import Derived.Test.YtdmnemgooagehaaGreatDoorV1
namespace Go.Proofs.YtdmnemgooagehaaGreatDoor
open Go.RowKit Go.Maps

def u1 : Pls := setU none_ 0 0 true
def u2 : Pls := setU u1 0 1 true
def u3 : Pls := setU u2 0 0 false
def u5 : Pls := setU u3 0 1 false
theorem u1_slb {q : Nat} (h : Slb u1 15 q) : q = 0 := by
  obtain ⟨i, _, hu⟩ := h
  unfold u1 setU none_ at hu
  split at hu
  · rename_i e; exact e.1
  · cases hu
theorem al_take1 {U' : Pls} {B' : St} {q i : Nat} (h : Taken none_ U' 15 q i) (hc : Came (begin_ 6) B' none_ 15 q) : q = 0 ∧ i = 0 ∧ U' = u1 := by
  have hi : i = 0 := by
    rcases Nat.eq_zero_or_pos i with e | e
    · exact e
    · have := h.low 0 e; cases this
  rcases hc with ⟨h1, _⟩ | ⟨_, _, _, _, k, j, hl, hp⟩
  · exact absurd h1 (none_slb _ _)
  · obtain ⟨rfl, rfl⟩ := begin_least hl
    have hq : q = 0 := by unfold pag addr at hp; omega
    subst hi hq
    exact ⟨rfl, rfl, h.now⟩
theorem al_take2 {U' : Pls} {q i : Nat} (h : Taken u1 U' 15 q i) : q = 0 ∧ i = 1 ∧ U' = u2 := by
  have hq : q = 0 := by
    rcases h.page with ⟨hs, _⟩ | ⟨hno, _⟩
    · exact u1_slb hs
    · exact absurd ⟨⟨0, by omega, rfl⟩, 1, by omega, rfl⟩ (hno 0)
  subst hq
  have hi : i = 1 := by
    rcases Nat.lt_trichotomy i 1 with e | e | e
    · have : i = 0 := by omega
      subst this
      have := h.free
      cases this
    · exact e
    · have := h.low 1 e
      cases this
  subst hi
  exact ⟨rfl, rfl, h.now⟩
theorem al_place {q i j : Nat} {x : Int} (h : x = ((place 64 q i : Nat) : Int)) (hx : x = ((place 64 0 j : Nat) : Int)) (hi : i < 15) (hj : j < 15) : q = 0 ∧ i = j := by
  obtain ⟨e1, e2⟩ := place_one (sz := 64) (m := 15) (by omega) (by omega) hi hj (by omega : place 64 q i = place 64 0 j)
  exact ⟨e1, e2⟩

set_option maxRecDepth 100000 in
set_option maxHeartbeats 4000000 in
theorem salive_any (w : World) (hT : Tab w) : Calls Tryz.prog 6 #[] w fun e w' => e = .returned (.bool true) ∧ Below w.heap.size w w' := by
  have hz : Sz 64 15 6 := ⟨by omega, by omega, rfl, by omega, by omega⟩
  have HT := hid hT
  clear hT
  go_enter Tryz.func6, Tryz.ntmps6
  go_wp2_with fail
  refine (newB_any 6 w HT.out (by omega) (by omega)).mono ?_
  rintro e w1 ⟨p, mm, bf, gf, rfl, hm1, hn1, hb1⟩
  have H1 := hid (And.intro hm1 (And.intro hn1 hb1))
  clear hm1 hn1 hb1
  go_wp2_with fail
  refine (snew_any p 64 w1 (by omega) (by omega) rfl).mono ?_
  intro e w2 h2
  obtain ⟨c, rfl, _, hS2⟩ := sys_new (m := 15) (w0 := w) (Bd := w.heap.size) H1.out.2.2 H1.out.2.2.size (HT.out.below H1.out.2.2 HT.out.pos) HT.out.pos ⟨begin_inv 6, begin_noheld 6, H1.out.1⟩ (by
    rintro x (rfl | ⟨k, hk, rfl⟩)
    · exact H1.out.2.1.2.1
    · exact (H1.out.2.1.2.2 k hk).2) h2
  have X2 := hid (And.intro hS2 (Exact.start 6 15))
  clear h2 hS2 H1
  go_wp2_with fail
  refine (X2.out.1.take hz (by omega)).mono ?_
  rintro e w3 ⟨B3, U3, hS3, _, ⟨rfl, _, hno, _⟩ | ⟨q, i, rfl, ht, hc⟩⟩
  · exact (begin_some (K := 6) (o := 0) (by omega) (fun k j _ => hno k j)).elim
  obtain ⟨rfl, rfl, rfl⟩ := al_take1 ht hc
  rw [show place 64 0 0 = 64 from rfl]
  have X3 := hid (And.intro hS3 (X2.out.2.take ht hc))
  clear ht hc hS3 X2
  go_wp2_with fail
  refine (X3.out.1.take hz (by omega)).mono ?_
  rintro e w4 ⟨B4, U4, hS4, _, ⟨rfl, hno, _⟩ | ⟨q, i, rfl, ht, hc⟩⟩
  · exact (hno 0 ⟨⟨0, by omega, rfl⟩, 1, by omega, rfl⟩).elim
  obtain ⟨rfl, rfl, rfl⟩ := al_take2 ht
  rw [show place 64 0 1 = 128 from rfl]
  have X4 := hid (And.intro hS4 (X3.out.2.take ht hc))
  clear ht hc hS4 X3
  go_wp2_with fail
  refine (X4.out.1.slabs (by omega)).mono ?_
  rintro e w5 ⟨v5, rfl, hrow5, hb5⟩
  obtain ⟨a5, cap5, rfl, _⟩ := ints_len hrow5 (show (slabsOf u2 15 (2 ^ 6)).length = 1 by decide +kernel)
  have X5 := hid (And.intro (X4.out.1.below hb5) X4.out.2)
  clear hrow5 hb5 X4
  go_wp2_with fail
  refine (X5.out.1.give hz 64 (by omega) (by omega)).mono ?_
  rintro e w6 ⟨B6, U6, hS6, _, ⟨rfl, hno, _⟩ | ⟨q, i, rfl, hg, hx, hc⟩⟩
  · exact (hno 0 0 (by omega) rfl rfl).elim
  obtain ⟨rfl, rfl⟩ := al_place hx (j := 0) rfl hg.lt (by omega)
  obtain rfl : U6 = u3 := hg.now
  have X6 := hid (And.intro hS6 (X5.out.2.give hg hc))
  clear hg hx hc hS6 X5
  go_wp2_with fail
  refine (X6.out.1.give hz 64 (by omega) (by omega)).mono ?_
  rintro e w7 ⟨B7, U7, hS7, _, ⟨rfl, _, rfl, rfl⟩ | ⟨q, i, rfl, hg, hx, hc⟩⟩
  rotate_left
  · obtain ⟨rfl, rfl⟩ := al_place hx (j := 0) rfl hg.lt (by omega)
    have := hg.used
    cases this
  have X7 := hid (And.intro hS7 X6.out.2)
  clear hS7 X6
  go_wp2_with fail
  refine (X7.out.1.give hz 128 (by omega) (by omega)).mono ?_
  rintro e w8 ⟨B8, U8, hS8, _, ⟨rfl, hno, _⟩ | ⟨q, i, rfl, hg, hx, hc⟩⟩
  · exact (hno 0 1 (by omega) rfl rfl).elim
  obtain ⟨rfl, rfl⟩ := al_place hx (j := 1) rfl hg.lt (by omega)
  obtain rfl : U8 = u5 := hg.now
  have X8 := hid (And.intro hS8 (X7.out.2.give hg hc))
  clear hg hx hc hS8 X7
  go_wp2_with fail
  refine (size_any w8 c 64 X8.out.1.c1).mono ?_
  rintro e wx ⟨rfl, ex⟩
  rw [ex]
  clear ex wx
  go_wp2_with fail
  refine (many_any w8 c 64 X8.out.1.c1 (by omega) (by omega)).mono ?_
  rintro e wx ⟨rfl, ex⟩
  rw [ex]
  clear ex wx
  rw [show 960 / 64 = 15 from rfl]
  go_wp2_with fail
  refine (X8.out.1.used hz (by omega)).mono ?_
  rintro e w9 ⟨v9, rfl, hrow9, hb9⟩
  obtain ⟨a9, cap9, rfl, _⟩ := ints_len hrow9 (show (usedOf u5 64 15 (2 ^ 6)).length = 0 by decide +kernel)
  have X9 := hid (And.intro (X8.out.1.below hb9) X8.out.2)
  clear hrow9 hb9 X8
  go_wp2_with fail
  refine (X9.out.1.slabs (by omega)).mono ?_
  rintro e w10 ⟨v10, rfl, hrow10, hb10⟩
  obtain ⟨a10, cap10, rfl, _⟩ := ints_len hrow10 (show (slabsOf u5 15 (2 ^ 6)).length = 0 by decide +kernel)
  have X10 := hid (And.intro (X9.out.1.below hb10) X9.out.2)
  clear hrow10 hb10 X9
  have hleft : pages 6 (isK B8 .free) (6 + 1) = 64 := by
    have := X10.out.2.left X10.out.1.inv.1 X10.out.1.inv.2
    rw [show (slabsOf u5 15 (2 ^ 6)).length = 0 by decide +kernel] at this
    omega
  go_wp2_with fail
  refine X10.out.1.left.mono ?_
  rintro e wx ⟨rfl, ex⟩
  rw [ex, hleft]
  clear ex wx hleft
  go_wp2_with fail
  refine (snew_no p 17 w10 (by omega)).mono ?_
  rintro e wx ⟨rfl, ex⟩
  rw [ex]
  clear ex wx
  go_wp2_with fail
  go_ret
  exact ⟨rfl, X10.out.1.b0⟩
end Go.Proofs.YtdmnemgooagehaaGreatDoor
