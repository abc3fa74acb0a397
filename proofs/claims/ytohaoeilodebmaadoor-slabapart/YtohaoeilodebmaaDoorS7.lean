/- The library's heap over the open slabs: the row's own Pop; Pop; Remove. -/
import Derived.Test.YtohaoeilodebmaaDoorS6
namespace Go.Proofs.YtohaoeilodebmaaDoor
open Go.RowKit Go.Maps

theorem Hm.cut {w w' : World} {g cap m : Nat} {L sb bm : Nat → Nat} {cur : Array Value} {v : Value} (h : Hm w g cap (m + 1) L sb bm) (hb : w.heap[g]? = some (.cells cur 82)) (hb' : w'.heap[g]? = some (.cells (cur.setIfInBounds m v) 82)) (ho : ∀ k, k < m → w'.heap[sb (L k)]? = w.heap[sb (L k)]?) : Hm w' g cap m L sb bm := by
  obtain ⟨cur', hb2, hs, hc⟩ := h.body
  obtain rfl : cur = cur' := by
    rw [hb] at hb2
    simpa using hb2
  refine ⟨⟨_, hb', by simp [hs], fun k hk => ?_⟩, fun k hk => (ho k hk).trans (h.slab k (by omega)), fun i j hi hj he => h.one i j (by omega) (by omega) he, fun k hk => h.gap k (by omega), by have := h.len; omega, h.small⟩
  rw [Array.getElem?_setIfInBounds_ne (by omega)]
  exact hc k (by omega)

def OPopPost (w : World) (c g cap m : Nat) (L sb bm : Nat → Nat) (e : Ending) (w' : World) : Prop :=
  e = .returned (.iface 82 (.pointer (some ⟨sb (L m), 0, none⟩))) ∧ Hc w' c g cap m L sb bm ∧ Turn (fun x => x = c ∨ x = g) w w' ∧ (∀ cs, w.heap[c]? = some (.cells cs 79) → w'.heap[c]? = some (.cells (cs.setIfInBounds 3 (.slice (some ⟨g, 0, none⟩) m cap)) 79))

set_option maxRecDepth 100000 in
set_option maxHeartbeats 2000000 in
theorem opop_any (w : World) (c g cap m : Nat) (cs : Array Value) (L sb bm : Nat → Nat) (hc : w.heap[c]? = some (.cells cs 79)) (h : Hc w c g cap (m + 1) L sb bm) :
    Calls Tryd.prog 131 #[.pointer (some ⟨c, 3, none⟩)] w (OPopPost w c g cap m L sb bm) := by
  obtain ⟨cur, hb, hs, hcur⟩ := h.mem.body
  have k3 := h.cell
  have km := h.mem.cell (k := m) (by omega)
  have fm := frozen_of_row w g m _ _ hb
  have hlen := h.mem.len
  have hsm := h.mem.small
  unfold maxLen at hsm
  have hfew := h.few
  have i1 : ((m + 1 : Nat) : Int) - 1 = (m : Int) := by omega
  have i2 : (m : Int) < ((m + 1 : Nat) : Int) := by omega
  have i3 : (0 : Int) ≤ (m : Int) := by omega
  have i4 : (m : Int) ≤ (cap : Int) := by omega
  have HH := hid (And.intro hc (And.intro h (And.intro hb hs)))
  obtain ⟨s, hse⟩ : ∃ s, s = sb (L m) := ⟨_, rfl⟩
  rw [← hse] at km
  have HS := hid hse
  have hcg := h.cg
  clear hc h hb hs hcur hse
  go_enter Tryd.func131, Tryd.ntmps131
  go_upto_region 4 with fail
  have hb1 : (w.setCell ⟨g, m, none⟩ (.pointer none)).heap[g]? = some (.cells (cur.setIfInBounds m (.pointer none)) 82) := setCell_head HH.out.2.2.1 _
  have hc1 : (w.setCell ⟨g, m, none⟩ (.pointer none)).heap[c]? = some (.cells cs 79) := (Below.heap_setCell _ _ _ _ hcg).trans HH.out.1
  have ho1 : ∀ x, x ≠ g → (w.setCell ⟨g, m, none⟩ (.pointer none)).heap[x]? = w.heap[x]? := fun x hx => Below.heap_setCell _ _ _ _ hx
  have ht1 : Turn (fun x => x = c ∨ x = g) w (w.setCell ⟨g, m, none⟩ (.pointer none)) := (Turn.refl _ w).but (But.setCell (But.refl g w) (.inl rfl) _) (.inl (.inr rfl))
  generalize w.setCell ⟨g, m, none⟩ (.pointer none) = w1 at *
  have h3 : cs[3]? = some (.slice (some ⟨g, 0, none⟩) (m + 1) cap) := by rw [← cell_of_row _ _ _ _ _ _ HH.out.1]; exact k3
  have q3 : w1.cell? ⟨c, 3, none⟩ = some (.slice (some ⟨g, 0, none⟩) (m + 1) cap) := by rw [cell_of_row _ _ _ _ _ _ hc1]; exact h3
  have f3 := frozen_of_row w1 c 3 _ _ hc1
  have H1 := hid (And.intro hb1 (And.intro hc1 (And.intro ho1 (And.intro ht1 h3))))
  clear hb1 hc1 ho1 ht1 h3 k3 km fm
  go_wp2_with fail
  go_ret
  obtain ⟨hb1, hc1, ho1, ht1, h3⟩ := H1.out
  have hH := HH.out.2.1
  have hc2 : (w1.setCell ⟨c, 3, none⟩ (.slice (some ⟨g, 0, none⟩) m cap)).heap[c]? = some (.cells (cs.setIfInBounds 3 (.slice (some ⟨g, 0, none⟩) m cap)) 79) := setCell_head hc1 _
  have ho2 : ∀ x, x ≠ c → (w1.setCell ⟨c, 3, none⟩ (.slice (some ⟨g, 0, none⟩) m cap)).heap[x]? = w1.heap[x]? := fun x hx => Below.heap_setCell _ _ _ _ hx
  refine ⟨by rw [← HS.out]; rfl, ⟨?_, hH.mem.cut HH.out.2.2.1 ((ho2 g hcg.symm).trans hb1) (fun k hk => (ho2 _ (hH.cs k (by omega))).trans (ho1 _ (hH.mem.gap k (by omega)))), hcg, fun k hk => hH.cs k (by omega), by omega⟩, ht1.but (But.setCell (But.refl c w1) (.inl rfl) _) (.inl (.inl rfl)), fun cs2 hcs2 => ?_⟩
  · rw [cell_of_row _ _ _ _ _ _ hc2, Array.getElem?_setIfInBounds_self_of_lt (Array.getElem?_eq_some_iff.1 h3).1]
  · obtain rfl : cs = cs2 := by
      rw [HH.out.1] at hcs2
      simpa using hcs2
    exact hc2
end Go.Proofs.YtohaoeilodebmaaDoor
