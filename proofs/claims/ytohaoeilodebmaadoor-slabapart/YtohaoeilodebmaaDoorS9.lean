/- The library's heap over the open slabs: Remove takes the one that stands there. -/
import Derived.Test.YtohaoeilodebmaaDoorS8
namespace Go.Proofs.YtohaoeilodebmaaDoor
open Go.RowKit Go.Maps

theorem swp_same (L : Nat → Nat) (i : Nat) : swp L i i = L := by
  funext k
  unfold swp
  split
  · rename_i h; rw [h]
  · rfl
theorem same_block {w w1 w2 : World} {c g cap m i : Nat} {L sb bm : Nat → Nat} {cs : Array Value} (hi : i ≤ m) (h : Hc w c g cap (m + 1) L sb bm) (hc : w.heap[c]? = some (.cells cs 79))
    (ht1 : Turn (fun x => x = g ∨ x = sb (L i) ∨ x = sb (L m)) w w1) (ht2 : Turn (fun x => x = g ∨ ∃ k, k < m + 1 ∧ x = sb (swp L i m k)) w1 w2) : w2.heap[c]? = some (.cells cs 79) := by
  have hlc : c < w.heap.size := World.block_lt_of_cell? w ⟨c, 3, none⟩ h.cell
  rw [ht2.block c (Nat.lt_of_lt_of_le hlc ht1.size) (by
      rintro (e | ⟨k, hk, e⟩)
      · exact h.cg e
      · obtain ⟨k', hk', e'⟩ := (SameSet.swp (L := L) (n := m + 1) (i := i) (j := m) (by omega) (by omega)).1 k hk
        exact h.cs k' hk' (by rw [e, e'])), ht1.block c hlc (by
      rintro (e | e | e)
      · exact h.cg e
      · exact h.cs i (by omega) e.symm
      · exact h.cs m (by omega) e.symm)]
  exact hc

set_option maxRecDepth 100000 in
set_option maxHeartbeats 2000000 in
theorem hremove_last (w : World) (c g cap m : Nat) (cs : Array Value) (L sb bm : Nat → Nat) (hc : w.heap[c]? = some (.cells cs 79)) (h : Hc w c g cap (m + 1) L sb bm) (hh : Hpo L (m + 1)) :
    Calls Tryd.prog 74 #[.iface 89 (.pointer (some ⟨c, 3, none⟩)), .int .i64 (m : Int)] w (HOutPost w c g cap m m L sb bm) := by
  have hml := meth_len ⟨c, 3, none⟩ w _ _ _ h.cell
  have hmp := meth_pop ⟨c, 3, none⟩ w
  have hfew := h.few
  have HH := hid (And.intro hc (And.intro h hh))
  clear hc h hh
  go_enter Tryd.func74, Tryd.ntmps74
  go_wp2_with fail
  refine (olen_any _ _ _ _).mono ?_
  rintro e w0 ⟨rfl, rfl⟩
  go_wp2_with fail
  refine (opop_any w0 c g cap m cs L sb bm HH.out.1 HH.out.2.1).mono ?_
  intro e w3 ho
  have ho' := ho
  obtain ⟨rfl, _⟩ := ho
  have HO := hid ho'
  clear ho'
  go_wp2_with fail
  go_ret
  refine out_end (by omega) HH.out.2.1 (Turn.refl _ _) (Turn.refl _ _) (by rw [swp_same]; exact SameSet.refl L m) (fun k h0 hk => HH.out.2.2 k h0 (by omega)) rfl HH.out.2.1 HO.out

set_option maxRecDepth 100000 in
set_option maxHeartbeats 2000000 in
theorem hremove_mid (w : World) (c g cap m i : Nat) (cs : Array Value) (L sb bm : Nat → Nat) (hi : i < m) (hc : w.heap[c]? = some (.cells cs 79)) (h : Hc w c g cap (m + 1) L sb bm) (hh : Hpo L (m + 1)) :
    Calls Tryd.prog 74 #[.iface 89 (.pointer (some ⟨c, 3, none⟩)), .int .i64 (i : Int)] w (HOutPost w c g cap m i L sb bm) := by
  have hml := meth_len ⟨c, 3, none⟩ w _ _ _ h.cell
  have hms := meth_swap ⟨c, 3, none⟩ w _ _ _ h.cell
  have hfew := h.few
  have hne : ((m : Int) != (i : Int)) = true := by rw [bne_iff_ne]; omega
  have hne2 : ¬ ((m : Int) = (i : Int)) := by omega
  have HH := hid (And.intro hc (And.intro h hh))
  clear hc h hh
  go_enter Tryd.func74, Tryd.ntmps74
  go_wp2_with fail
  refine (olen_any _ _ _ _).mono ?_
  rintro e w0 ⟨rfl, rfl⟩
  go_wp2_with fail
  refine (swap_any w0 g cap (m + 1) L sb bm i m HH.out.2.1.mem (by omega) (by omega)).mono ?_
  rintro e w1 ⟨rfl, hm1, ht1⟩
  have H1 := hid (HH.out.2.1.swapped (by omega) (by omega) hm1 ht1)
  have HT1 := hid ht1
  clear hm1 ht1 hml hms
  go_wp2_with fail
  refine (down_any w1 c g cap (m + 1) (swp L i m) sb bm i m H1.out (HH.out.2.2.gen_swp (by omega)) (by omega) (by omega)).mono ?_
  rintro e w2 ⟨moved, L2, rfl, hH2, hy, hn2, hs2, hf2, ht2⟩
  cases moved
  · obtain ⟨rfl, hu⟩ := hn2 rfl
    have H2 := hid (And.intro hH2 (And.intro hu ht2))
    clear hH2 hy hn2 hs2 hf2 ht2 hu
    go_wp2_with fail
    refine (up_any w2 c g cap (m + 1) (swp L i m) sb bm i m H2.out.1 H2.out.2.1 hi (by omega)).mono ?_
    rintro e w3 ⟨rfl, L3, hH3, hp3, hs3, hf3, ht3⟩
    have hl3 : L3 m = L i := by rw [hf3 m (Nat.le_refl _), swp_r]
    have ht23 := H2.out.2.2.trans ht3
    have hc3 := same_block (by omega) HH.out.2.1 HH.out.1 HT1.out ht23
    have hmp := meth_pop ⟨c, 3, none⟩ w3
    have H3 := hid (And.intro hH3 (And.intro hp3 (And.intro hs3 (And.intro hl3 (And.intro ht23 hc3)))))
    clear hH3 hp3 hs3 hf3 ht3 hl3 ht23 hc3
    go_wp2_with fail
    refine (opop_any w3 c g cap m cs L3 sb bm H3.out.2.2.2.2.2 H3.out.1).mono ?_
    intro e w4 ho
    have ho' := ho
    obtain ⟨rfl, _⟩ := ho
    have HO := hid ho'
    clear ho'
    go_wp2_with fail
    go_ret
    exact out_end (by omega) HH.out.2.1 HT1.out H3.out.2.2.2.2.1 H3.out.2.2.1 H3.out.2.1 H3.out.2.2.2.1 H3.out.1 HO.out
  · have hp2 := hy rfl
    have hl2 : L2 m = L i := by rw [hf2 m (Nat.le_refl _), swp_r]
    have hc2 := same_block (by omega) HH.out.2.1 HH.out.1 HT1.out ht2
    have hmp := meth_pop ⟨c, 3, none⟩ w2
    have H2 := hid (And.intro hH2 (And.intro hp2 (And.intro hs2 (And.intro hl2 (And.intro ht2 hc2)))))
    clear hH2 hy hn2 hs2 hf2 ht2 hp2 hl2 hc2
    go_wp2_with fail
    refine (opop_any w2 c g cap m cs L2 sb bm H2.out.2.2.2.2.2 H2.out.1).mono ?_
    intro e w3 ho
    have ho' := ho
    obtain ⟨rfl, _⟩ := ho
    have HO := hid ho'
    clear ho'
    go_wp2_with fail
    go_ret
    exact out_end (by omega) HH.out.2.1 HT1.out H2.out.2.2.2.2.1 H2.out.2.2.1 H2.out.2.1 H2.out.2.2.2.1 H2.out.1 HO.out

theorem hremove_any (w : World) (c g cap m i : Nat) (cs : Array Value) (L sb bm : Nat → Nat) (hi : i ≤ m) (hc : w.heap[c]? = some (.cells cs 79)) (h : Hc w c g cap (m + 1) L sb bm) (hh : Hpo L (m + 1)) :
    Calls Tryd.prog 74 #[.iface 89 (.pointer (some ⟨c, 3, none⟩)), .int .i64 (i : Int)] w (HOutPost w c g cap m i L sb bm) := by
  by_cases e : i = m
  · subst e; exact hremove_last w c g cap i cs L sb bm hc h hh
  · exact hremove_mid w c g cap m i cs L sb bm (by omega) hc h hh
end Go.Proofs.YtohaoeilodebmaaDoor
