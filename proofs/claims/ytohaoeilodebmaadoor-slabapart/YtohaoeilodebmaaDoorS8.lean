/- The library's heap over the open slabs: Pop takes the least one, Remove the one that stands there. -/
import Derived.Test.YtohaoeilodebmaaDoorS7
namespace Go.Proofs.YtohaoeilodebmaaDoor
open Go.RowKit Go.Maps

/-- A heap with the one at i less: what is left stands in order, and is what stood there but that. -/
def HOutPost (w : World) (c g cap m i : Nat) (L sb bm : Nat → Nat) (e : Ending) (w' : World) : Prop :=
  e = .returned (.iface 82 (.pointer (some ⟨sb (L i), 0, none⟩))) ∧ ∃ L', Hc w' c g cap m L' sb bm ∧ Hpo L' m ∧ SameSet (swp L i m) L' m ∧ Turn (fun x => x = c ∨ x = g ∨ ∃ k, k < m + 1 ∧ x = sb (L k)) w w' ∧ (∀ cs, w.heap[c]? = some (.cells cs 79) → w'.heap[c]? = some (.cells (cs.setIfInBounds 3 (.slice (some ⟨g, 0, none⟩) m cap)) 79)) ∧ w'.heap[sb (L i)]? = some (.cells #[.pointer (some ⟨bm (L i), 0, none⟩), .int .i64 ((L i * 1024 : Nat) : Int), .int .i64 (m : Int)] 87)

theorem Hpo.gen_swp {L : Nat → Nat} {m i : Nat} (h : Hpo L (m + 1)) (hi : i ≤ m) : Geno (swp L i m) m i :=
  h.gen (by omega) (by omega) (fun k hk hne => swp_o L hne (by omega))

/-- The row's places but their last turned: the cache's own block, and what is told of the row's end. -/
theorem out_end {w w1 w2 w3 : World} {c g cap m i : Nat} {L L2 sb bm : Nat → Nat} {e : Ending} (hi : i ≤ m) (h : Hc w c g cap (m + 1) L sb bm)
    (ht1 : Turn (fun x => x = g ∨ x = sb (L i) ∨ x = sb (L m)) w w1) (ht2 : Turn (fun x => x = g ∨ ∃ k, k < m + 1 ∧ x = sb (swp L i m k)) w1 w2) (hs : SameSet (swp L i m) L2 m) (hp : Hpo L2 m) (hl : L2 m = L i) (hH2 : Hc w2 c g cap (m + 1) L2 sb bm) (ho : OPopPost w2 c g cap m L2 sb bm e w3) :
    HOutPost w c g cap m i L sb bm e w3 := by
  obtain ⟨rfl, hH, ht3, hf⟩ := ho
  have hta : Turn (fun x => x = c ∨ x = g ∨ ∃ k, k < m + 1 ∧ x = sb (L k)) w w2 := by
    refine (ht1.wide ?_).trans ?_
    · rintro x (e | e | e)
      · exact .inr (.inl e)
      · exact .inr (.inr ⟨i, by omega, e⟩)
      · exact .inr (.inr ⟨m, by omega, e⟩)
    · refine ht2.wide ?_
      rintro x (e | ⟨k, hk, e⟩)
      · exact .inr (.inl e)
      · obtain ⟨k', hk', e'⟩ := (SameSet.swp (L := L) (n := m + 1) (i := i) (j := m) (by omega) (by omega)).1 k hk
        exact .inr (.inr ⟨k', hk', by rw [e, e']⟩)
  have hlc : c < w.heap.size := World.block_lt_of_cell? w ⟨c, 3, none⟩ h.cell
  have hb1 : w1.heap[c]? = w.heap[c]? := ht1.block c hlc (by
    rintro (e | e | e)
    · exact h.cg e
    · exact h.cs i (by omega) e.symm
    · exact h.cs m (by omega) e.symm)
  have hb2 : w2.heap[c]? = w1.heap[c]? := ht2.block c (Nat.lt_of_lt_of_le hlc ht1.size) (by
    rintro (e | ⟨k, hk, e⟩)
    · exact h.cg e
    · obtain ⟨k', hk', e'⟩ := (SameSet.swp (L := L) (n := m + 1) (i := i) (j := m) (by omega) (by omega)).1 k hk
      exact h.cs k' hk' (by rw [e, e']))
  refine ⟨by rw [hl], L2, hH, hp, hs, hta.trans (ht3.wide ?_), fun cs2 hcs2 => hf cs2 ((hb2.trans hb1).trans hcs2), ?_⟩
  · rintro x (e | e)
    · exact .inl e
    · exact .inr (.inl e)
  · have hx := hH2.mem.slab m (by omega)
    rw [← hl, ht3.block _ (Array.getElem?_eq_some_iff.1 hx).1 (by
      rintro (e | e)
      · exact hH2.cs m (by omega) e
      · exact hH2.mem.gap m (by omega) e)]
    exact hx

set_option maxRecDepth 100000 in
set_option maxHeartbeats 2000000 in
theorem hpop_any (w : World) (c g cap m : Nat) (cs : Array Value) (L sb bm : Nat → Nat) (hc : w.heap[c]? = some (.cells cs 79)) (h : Hc w c g cap (m + 1) L sb bm) (hh : Hpo L (m + 1)) :
    Calls Tryd.prog 52 #[.iface 89 (.pointer (some ⟨c, 3, none⟩))] w (HOutPost w c g cap m 0 L sb bm) := by
  have hml := meth_len ⟨c, 3, none⟩ w _ _ _ h.cell
  have hms := meth_swap ⟨c, 3, none⟩ w _ _ _ h.cell
  have hfew := h.few
  have hsw := swap_any w g cap (m + 1) L sb bm 0 m h.mem (by omega) (by omega)
  rw [show ((0 : Nat) : Int) = 0 from rfl] at hsw
  have HSW := hid hsw
  have HH := hid (And.intro hc (And.intro h hh))
  clear hc h hh hsw
  go_enter Tryd.func52, Tryd.ntmps52
  go_wp2_with fail
  refine (olen_any _ _ _ _).mono ?_
  rintro e w0 ⟨rfl, rfl⟩
  go_wp2_with fail
  refine HSW.out.mono ?_
  rintro e w1 ⟨rfl, hm1, ht1⟩
  have H1 := hid (HH.out.2.1.swapped (by omega) (by omega) hm1 ht1)
  have HT1 := hid ht1
  have hdn := down_any w1 c g cap (m + 1) (swp L 0 m) sb bm 0 m H1.out (HH.out.2.2.gen_swp (by omega)) (by omega) (by omega)
  rw [show ((0 : Nat) : Int) = 0 from rfl] at hdn
  have HDN := hid hdn
  clear hm1 ht1 hdn hml hms HSW
  go_wp2_with fail
  refine HDN.out.mono ?_
  rintro e w2 ⟨moved, L2, rfl, hH2, hy, hn2, hs2, hf2, ht2⟩
  have hp2 : Hpo L2 m := by
    cases moved
    · obtain ⟨rfl, hu⟩ := hn2 rfl
      exact hu.done (fun h => by omega)
    · exact hy rfl
  have hl2 : L2 m = L 0 := by rw [hf2 m (Nat.le_refl _), swp_r]
  have hlc : c < w0.heap.size := World.block_lt_of_cell? w0 ⟨c, 3, none⟩ HH.out.2.1.cell
  have hc2 : w2.heap[c]? = some (.cells cs 79) := by
    rw [ht2.block c (Nat.lt_of_lt_of_le hlc HT1.out.size) (by
      rintro (e | ⟨k, hk, e⟩)
      · exact H1.out.cg e
      · exact H1.out.cs k hk e.symm), HT1.out.block c hlc (by
      rintro (e | e | e)
      · exact HH.out.2.1.cg e
      · exact HH.out.2.1.cs 0 (by omega) e.symm
      · exact HH.out.2.1.cs m (by omega) e.symm)]
    exact HH.out.1
  have hmp := meth_pop ⟨c, 3, none⟩ w2
  have H2 := hid (And.intro hH2 (And.intro hp2 (And.intro hs2 (And.intro hl2 (And.intro ht2 hc2)))))
  clear hH2 hy hn2 hs2 hf2 ht2 hp2 hl2 hc2
  go_wp2_with fail
  refine (opop_any w2 c g cap m cs L2 sb bm H2.out.2.2.2.2.2 H2.out.1).mono ?_
  intro e w3 ho
  have ho' := ho
  obtain ⟨rfl, _⟩ := ho
  have HO := hid ho'
  clear ho'
  go_wp2_with fail
  go_ret
  exact out_end (by omega) HH.out.2.1 HT1.out H2.out.2.2.2.2.1 H2.out.2.2.1 H2.out.2.1 H2.out.2.2.2.1 H2.out.1 HO.out
end Go.Proofs.YtohaoeilodebmaaDoor
