/- The contract of Close. -/
import Derived.Test.YtlgceknfphholaaG
namespace Go.Proofs.Ytlgceknfphholaa
open Go.RowKit

theorem close_nil (i : Int) (w : World) : Calls Try.prog 12 #[.pointer none, .int .i64 i] w fun e w' => e = .returned (.int .i64 1) ∧ Below w.heap.size w w' := by
  have hb : Below w.heap.size w (w.alloc (.cells #[.pointer none] 57)) := (Below.refl _ _).alloc (Nat.le_refl _) _
  go_enter Try.func12, Try.ntmps12
  go_wp2_with (go_at_call 28; refine (find_nil i _).mono ?_; rintro e w' ⟨rfl, rfl⟩)
  go_ret
  exact ⟨rfl, hb⟩

def ptOf (fb : Nat → Nat) (l : List Fac) (t : Nat) : Nat := fb ((l[t]?.map Fac.id).getD 0)
theorem ptOf_at (fb : Nat → Nat) {l : List Fac} {t : Nat} {f : Fac} (h : l[t]? = some f) : ptOf fb l t = fb f.id := by unfold ptOf; rw [h]; rfl

section
variable {w : World} {p cap nxt : Nat} {a : Option Addr} {l : List Fac} {fb : Nat → Nat}
theorem Qm.rowIs (h : Qm w p a cap l nxt fb) (hl : 0 < l.length) : ∃ g, a = some ⟨g, 0, none⟩ ∧ RowIs w g cap l.length (ptOf fb l) ∧ l.length ≤ cap ∧ cap ≤ maxLen := by
  rcases h.row.2 with ⟨_, h0⟩ | ⟨g, cap', cur, e, _, h2, h3, h4, h5, h6⟩
  · omega
  · obtain ⟨rfl, rfl⟩ : a = some ⟨g, 0, none⟩ ∧ cap = cap' := by simpa using e
    refine ⟨g, rfl, ⟨cur, h2, by omega, fun t ht => ?_⟩, h3, h4⟩
    obtain ⟨f, hf⟩ : ∃ f, l[t]? = some f := ⟨_, List.getElem?_eq_getElem ht⟩
    rw [ptOf_at fb hf]
    have e2 : (ptrs fb l)[t]? = some (.pointer (some ⟨fb f.id, 0, none⟩)) := by unfold ptrs; rw [List.getElem?_map, hf]; rfl
    rw [← h6, List.getElem?_take_of_lt (by omega), Array.getElem?_toList] at e2
    exact e2
theorem row_of {g n : Nat} {pt : Nat → Nat} {xs : List Value} (h : RowIs w g cap n pt) (hn : n ≤ cap) (hc : cap ≤ maxLen) (hl : xs.length = n) (hx : ∀ t, t < n → xs[t]? = some (.pointer (some ⟨pt t, 0, none⟩))) : w.ownsRow 0 57 1 (.slice (some ⟨g, 0, none⟩) n cap) n xs := by
  obtain ⟨cur, h1, h2, h3⟩ := h
  refine ⟨by omega, .inr ⟨g, cap, cur, rfl, Nat.zero_le _, h1, hn, hc, by omega, ?_⟩⟩
  apply List.ext_getElem?
  intro t
  rw [Nat.mul_one]
  by_cases ht : t < n
  · rw [List.getElem?_take_of_lt ht, Array.getElem?_toList, h3 t ht, hx t ht]
  · rw [List.getElem?_take_eq_none (by omega), List.getElem?_eq_none (by omega)]
end

theorem del_get {l : List Fac} (hu : l.Pairwise fun a b => a.id < b.id) {k : Nat} {f : Fac} (hk : l[k]? = some f) (t : Nat) : (del l f.id)[t]? = if t < k then l[t]? else l[t + 1]? := by
  have hlt : k < l.length := (List.getElem?_eq_some_iff.1 hk).1
  rw [del_at hu hk]
  by_cases e : t < k
  · rw [if_pos e, List.getElem?_append_left (by simp; omega), List.getElem?_take_of_lt e]
  · rw [if_neg e, List.getElem?_append_right (by simp; omega), List.getElem?_drop]
    congr 1
    simp; omega
theorem del_length {l : List Fac} (hu : l.Pairwise fun a b => a.id < b.id) {k : Nat} {f : Fac} (hk : l[k]? = some f) : (del l f.id).length = l.length - 1 := by
  have hlt : k < l.length := (List.getElem?_eq_some_iff.1 hk).1
  rw [del_at hu hk]; simp; omega

section
variable {Z : Nat → Prop} {N : Nat} {w : World} {p nxt : Nat} {l : List Fac}
/-- Behind the striking: the tree without it. -/
theorem Qm.del {w w' : World} {p cap nxt g k : Nat} {l : List Fac} {fb : Nat → Nat} {f : Fac} (h : Qm w p (some ⟨g, 0, none⟩) cap l nxt fb) (hu : l.Pairwise fun a b => a.id < b.id) (hk : l[k]? = some f) (hc : l.length ≤ cap) (hm : cap ≤ maxLen) (hr : RowIs w' g cap (l.length - 1) (past (ptOf fb l) k)) (hb : But g w w') :
    Qm (w'.setCell ⟨p, 0, none⟩ (.slice (some ⟨g, 0, none⟩) (l.length - 1) cap)) p (some ⟨g, 0, none⟩) cap (del l f.id) nxt fb := by
  have hlen := del_length hu hk
  have hmem : ∀ x ∈ Ytlgceknfphholaa.del l f.id, x ∈ l := fun x hx => (mem_del.1 hx).1
  have hgp : g ≠ p := fun e => h.rp (by rw [e]; rfl)
  have hp' : w'.heap[p]? = some (.cells #[.slice (some ⟨g, 0, none⟩) l.length cap, .int .i64 (nxt : Int)] 56) := (hb.block p (h.lt (.inl rfl)) hgp.symm).trans h.head
  have ho : ∀ x, x ≠ p → (w'.setCell ⟨p, 0, none⟩ (.slice (some ⟨g, 0, none⟩) (l.length - 1) cap)).heap[x]? = w'.heap[x]? := fun x hx => Below.heap_setCell _ _ _ _ hx
  refine ⟨?_, ?_, ?_, fun x hx y hy => h.one x (hmem x hx) y (hmem y hy), h.rp, fun x hx => h.rf x (hmem x hx), fun x hx => h.fp x (hmem x hx)⟩
  · rw [setCell_head hp', hlen]; rfl
  · rw [hlen]
    have : w'.ownsRow 0 57 1 (.slice (some ⟨g, 0, none⟩) (l.length - 1) cap) (l.length - 1) (ptrs fb (Ytlgceknfphholaa.del l f.id)) := by
      refine row_of hr (by omega) hm (by simp [ptrs, hlen]) (fun t ht => ?_)
      unfold ptrs past
      rw [List.getElem?_map, del_get hu hk]
      split
      · obtain ⟨x, hx⟩ : ∃ x, l[t]? = some x := ⟨_, List.getElem?_eq_getElem (by omega)⟩
        rw [hx, ptOf_at fb hx]; rfl
      · obtain ⟨x, hx⟩ : ∃ x, l[t + 1]? = some x := ⟨_, List.getElem?_eq_getElem (by omega)⟩
        rw [hx, ptOf_at fb hx]; rfl
    exact this.other (fun x hx => by
      obtain rfl : g = x := by simpa [Value.ownBlock] using hx
      exact ho _ hgp)
  · intro x hx
    have hx' := hmem x hx
    rw [ho _ (h.fp x hx'), hb.block _ (h.lt (.inr (.inr ⟨x, hx', rfl⟩))) (fun e => h.rf x hx' (by rw [e]; rfl))]
    exact h.fac x hx'
theorem own_del {p : Nat} {a : Option Addr} {fb : Nat → Nat} {x : Nat} {i : Int} (h : Own p a fb (del l i) x) : Own p a fb l x := by
  rcases h with h | h | ⟨f, hf, rfl⟩
  · exact .inl h
  · exact .inr (.inl h)
  · exact .inr (.inr ⟨f, (mem_del.1 hf).1, rfl⟩)

set_option maxHeartbeats 4000000 in
theorem close_any (h : Qt Z w p l nxt) (hI : Inv N l nxt) (i : Int) : Calls Try.prog 12 #[.pointer (some ⟨p, 0, none⟩), .int .i64 i] w (ActPost Z w p (closeA l i).1 (closeA l i).2 nxt) := by
  have hl := hI.few
  cases hi : the l i with
  | none =>
    rw [show closeA l i = (6, l) from by unfold closeA; rw [hi]]
    obtain ⟨a, cap, fb, hq, hz⟩ := id h
    have HF := hid (find_none hq hl i hi)
    have HQ := hid h
    have hb : Below w.heap.size w (w.alloc (.cells #[.pointer none] 57)) := (Below.refl _ _).alloc (Nat.le_refl _) _
    clear h hq hz hi hI hl
    go_enter Try.func12, Try.ntmps12
    go_wp2_with (go_at_call 28; refine HF.out.mono ?_; rintro e w' ⟨rfl, rfl⟩)
    go_ret
    exact ⟨rfl, HQ.out.below hb, Turn.of_below hb⟩
  | some f =>
    obtain ⟨a, cap, fb, hq, hz⟩ := id h
    have HF := hid (find_some hq hl i f hi)
    have HQ := hid h
    have HZ := hid hz
    obtain ⟨hm, he⟩ := the_some hi
    obtain ⟨k, hk, hkl, _, _⟩ := the_at hi
    have hks := hI.kids_sum hm
    rw [show kids l f.id = kids l i from by rw [he]] at hks
    have hu : useOf l f = f.chg + (kids l i).sum := by unfold useOf; rw [he]
    have hup := hI.up
    have hbl : fb f.id < w.heap.size := hq.lt (.inr (.inr ⟨f, hm, rfl⟩))
    have hb : Below w.heap.size w (w.alloc (.cells #[.pointer (some ⟨fb f.id, 0, none⟩)] 57)) := (Below.refl _ _).alloc (Nat.le_refl _) _
    by_cases h0 : i = 0
    · rw [show closeA l i = (1, l) from by unfold closeA; rw [hi]; simp [h0]]
      subst h0
      clear h hq hz hi hI hl hm he hk hkl hks hu hup hbl HZ
      generalize fb f.id = b at *
      go_enter Try.func12, Try.ntmps12
      go_wp2_with (go_at_call 28; refine HF.out.mono ?_; rintro e w' ⟨rfl, rfl⟩)
      go_ret
      exact ⟨rfl, HQ.out.below hb, Turn.of_below hb⟩
    have hi0 : (i == 0) = false := by rw [beq_eq_false_iff_ne]; exact h0
    have hcell : (w.alloc (.cells #[.pointer (some ⟨fb f.id, 0, none⟩)] 57)).cell? ⟨w.heap.size, 0, none⟩ = some (.pointer (some ⟨fb f.id, 0, none⟩)) := by rw [cell_of_row _ _ _ _ _ _ (heap_alloc_new _ _)]; rfl
    have hsz : w.heap.size < (w.alloc (.cells #[.pointer (some ⟨fb f.id, 0, none⟩)] 57)).heap.size := by simp
    by_cases h1 : 0 < (kids l i).length
    · rw [show closeA l i = (12, l) from by unfold closeA; rw [hi]; simp only [if_neg h0, h1, true_or, if_true]]
      have HC := hid (carved_any (hq.below hb) hl i)
      clear h hq hz hi hI hl hm he hk hkl hks hu hup hbl HZ hcell hsz h0
      generalize fb f.id = b at *
      generalize kids l i = xs at *
      go_enter Try.func12, Try.ntmps12
      go_wp2_with (go_at_call 28; refine HF.out.mono ?_; rintro e w' ⟨rfl, rfl⟩)
      refine HC.out.mono ?_
      rintro e w1 ⟨v, rfl, hO, hX⟩
      obtain ⟨av, cv, rfl, _⟩ := row_cells hO
      go_wp2_with fail
      go_ret
      have hX2 := hb.trans (hX.mono hb.size)
      exact ⟨rfl, HQ.out.below hX2, Turn.of_below hX2⟩
    have hnil : kids l i = [] := List.eq_nil_of_length_eq_zero (by omega)
    have HC := hid (carved_any (hq.below hb) hl i)
    have HU := hid (fun (v : Value) (w1 : World) (ho : w1.ownsRow (w.alloc (.cells #[.pointer (some ⟨fb f.id, 0, none⟩)] 57)).heap.size 3 1 v (kids l i).length (nats (kids l i))) (hX : Below w.heap.size w w1) => use_any w1 _ (fb f.id) v (kids l i) f.chg ho ((hX.cell (p := ⟨fb f.id, 1, none⟩) hbl).trans (hq.chg hm)) (by omega) hks.2.2)
    rw [← hu] at HU
    by_cases h2 : 0 < useOf l f
    · rw [show closeA l i = (12, l) from by unfold closeA; rw [hi]; simp only [if_neg h0, h2, or_true, if_true]]
      have HX := hid hb
      clear h hq hz hi hI hl hm he hk hkl hks hu hup hbl HZ h0 hnil hb
      generalize fb f.id = b at *
      generalize kids l i = xs at *
      generalize useOf l f = us at *
      have hcl : ∀ w1 : World, Below (w.alloc (.cells #[.pointer (some ⟨b, 0, none⟩)] 57)).heap.size (w.alloc (.cells #[.pointer (some ⟨b, 0, none⟩)] 57)) w1 → w1.cell? ⟨w.heap.size, 0, none⟩ = some (.pointer (some ⟨b, 0, none⟩)) := fun w1 hX => (hX.cell (p := ⟨w.heap.size, 0, none⟩) hsz).trans hcell
      have HCL := hid hcl
      clear hcl hcell hsz
      go_enter Try.func12, Try.ntmps12
      go_wp2_with (go_at_call 28; refine HF.out.mono ?_; rintro e w' ⟨rfl, rfl⟩)
      refine HC.out.mono ?_
      rintro e w1 ⟨v, rfl, hO, hX⟩
      have hcc := HCL.out w1 hX
      have HO := hid hO
      obtain ⟨av, cv, rfl, _⟩ := row_cells hO
      clear hO
      go_wp2_with fail
      refine (HU.out _ w1 HO.out (HX.out.trans (hX.mono HX.out.size))).mono ?_
      rintro e w2 ⟨rfl, q, rfl⟩
      go_wp2_with fail
      go_ret
      have hX2 := of_below_drewN (HX.out.trans (hX.mono HX.out.size)) q
      exact ⟨rfl, HQ.out.below hX2, Turn.of_below hX2⟩
    · rw [show closeA l i = (0, del l i) from by unfold closeA; rw [hi]; simp only [if_neg h0, h1, h2, or_self, if_false]]
      have HX := hid hb
      obtain ⟨g, rfl, hrow, hlc, hcm⟩ := hq.rowIs (by omega)
      have hfac : ∀ t, t < l.length → ∃ x ∈ l, l[t]? = some x ∧ ptOf fb l t = fb x.id := fun t ht => by
        obtain ⟨x, hx⟩ : ∃ x, l[t]? = some x := ⟨_, List.getElem?_eq_getElem ht⟩
        exact ⟨x, List.mem_of_getElem? hx, hx, ptOf_at fb hx⟩
      have hgw : g < w.heap.size := hq.lt (.inr (.inl rfl))
      have HD := hid (fun (w3 : World) (hX3 : Below w.heap.size w w3) (hcc : w3.cell? ⟨w.heap.size, 0, none⟩ = some (.pointer (some ⟨fb f.id, 0, none⟩))) => delete_any w3 g l.length cap w.heap.size k (ptOf fb l) hkl hl hlc (by omega) (by rw [ptOf_at fb hk]; exact hcc) (by
        obtain ⟨g', e', hr', _⟩ := (hq.below hX3).rowIs (by omega)
        obtain rfl : g = g' := by simpa using e'
        exact hr') (fun t ht hne e => by
        obtain ⟨x, hx, hxt, e1⟩ := hfac t ht
        rw [e1, ptOf_at fb hk] at e
        have e3 := hq.one x hx f hm e
        have e4 : x = f := same_of hup hx hm e3
        subst e4
        rw [List.pairwise_iff_getElem] at hup
        obtain ⟨l1, g1⟩ := List.getElem?_eq_some_iff.1 hxt
        obtain ⟨l2, g2⟩ := List.getElem?_eq_some_iff.1 hk
        rcases Nat.lt_trichotomy t k with h | h | h
        · have := hup t k l1 l2 h; rw [g1, g2] at this; omega
        · exact hne h
        · have := hup k t l2 l1 h; rw [g1, g2] at this; omega) (fun t ht => by
        obtain ⟨x, hx, _, e1⟩ := hfac t ht
        rw [e1]; exact ⟨_, (hq.below hX3).fac x hx⟩) (fun t ht => by
        obtain ⟨x, hx, _, e1⟩ := hfac t ht
        rw [e1]; exact fun e => hq.rf x hx (by rw [e]; rfl)))
      have HE := hid (And.intro hq (And.intro hup (And.intro hk (And.intro hlc (And.intro hcm he)))))
      have hpl : p < w.heap.size := hq.lt (.inl rfl)
      have hcp := hid (fun (w3 : World) (hX3 : Below w.heap.size w w3) => (hX3.cell (p := ⟨p, 0, none⟩) hpl).trans hq.cell)
      have hgp : g ≠ p := fun e => hq.rp (by rw [e]; rfl)
      have hpg : p ≠ g := fun e => hgp e.symm
      clear h hq hz hi hI hl hm he hk hkl hks hu hup hbl h0 hnil hb hrow hlc hcm hfac
      obtain ⟨b, hbe⟩ : ∃ b, b = fb f.id := ⟨_, rfl⟩
      rw [← hbe] at HF hcell hsz HC HU HX HD
      clear hbe
      generalize kids l i = xs at *
      generalize useOf l f = us at *
      have hcl : ∀ w1 : World, Below (w.alloc (.cells #[.pointer (some ⟨b, 0, none⟩)] 57)).heap.size (w.alloc (.cells #[.pointer (some ⟨b, 0, none⟩)] 57)) w1 → w1.cell? ⟨w.heap.size, 0, none⟩ = some (.pointer (some ⟨b, 0, none⟩)) := fun w1 hX => (hX.cell (p := ⟨w.heap.size, 0, none⟩) hsz).trans hcell
      have HCL := hid hcl
      clear hcl hcell hsz
      go_enter Try.func12, Try.ntmps12
      go_wp2_with (go_at_call 28; refine HF.out.mono ?_; rintro e w' ⟨rfl, rfl⟩)
      refine HC.out.mono ?_
      rintro e w1 ⟨v, rfl, hO, hX⟩
      have hcc := HCL.out w1 hX
      have HO := hid hO
      obtain ⟨av, cv, rfl, _⟩ := row_cells hO
      clear hO
      have hX3 := HX.out.trans (hX.mono HX.out.size)
      have hcp1 := hcp.out w1 hX3
      go_wp2_with fail
      refine (HU.out _ w1 HO.out hX3).mono ?_
      rintro e w2 ⟨rfl, q, rfl⟩
      go_wp2_with fail
      refine (HD.out (w1.drewN q) (of_below_drewN hX3 q) hcc).mono ?_
      rintro e w4 ⟨rfl, hR4, hB4⟩
      have hp4 := (hB4.block p (by have := hX3.size; show p < w1.heap.size; omega) hpg).trans ((of_below_drewN hX3 q).block p hpl)
      rw [HE.out.1.head] at hp4
      have hc4 : w4.cell? ⟨p, 0, none⟩ = some (.slice (some ⟨g, 0, none⟩) l.length cap) := by rw [cell_of_row _ _ _ _ _ _ hp4]; rfl
      have hf4 := frozen_of_row w4 p 0 _ _ hp4
      have HB4 := hid hB4
      have HR4 := hid hR4
      clear hR4 hB4 hp4
      go_wp2_with fail
      go_ret
      refine ⟨rfl, ⟨some ⟨g, 0, none⟩, cap, fb, ?_, fun x hx => HZ.out x (own_del hx)⟩, ?_⟩
      · have := (HE.out.1.below (of_below_drewN hX3 q)).del HE.out.2.1 HE.out.2.2.1 HE.out.2.2.2.1 HE.out.2.2.2.2.1 HR4.out HB4.out
        rw [HE.out.2.2.2.2.2] at this
        exact this
      · exact ((Turn.of_below (of_below_drewN hX3 q)).but HB4.out (.inl (HZ.out g (.inr (.inl rfl))))).but (But.setCell (But.refl p _) (.inl rfl) _) (.inl (HZ.out p (.inl rfl)))
end
end Go.Proofs.Ytlgceknfphholaa
